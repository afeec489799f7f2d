package monoid

import (
	"math"
	"math/big"
	"math/rand"
	"slices"
	"testing"
)

// checkLaws checks the laws of a monoid on all triples of values.
func checkLaws[T any](t *testing.T, m Monoid[T], values []T, equal func(a, b T) bool) {
	t.Helper()
	for _, a := range values {
		if left, right := m.Join(m.Unit(), a), m.Join(a, m.Unit()); !equal(left, a) || !equal(right, a) {
			t.Errorf("%T: the unit with %v: %v, %v", m, a, left, right)
		}
		for _, b := range values {
			for _, c := range values {
				left, right := m.Join(m.Join(a, b), c), m.Join(a, m.Join(b, c))
				if !equal(left, right) {
					t.Errorf("%T: %v, %v, %v: %v and %v", m, a, b, c, left, right)
				}
			}
		}
	}
}

// same compares values of comparable types.
func same[T comparable](a, b T) bool { return a == b }

// ints contains small numbers and those at the ends of the type.
func ints() []int {
	return []int{0, 1, -1, 2, -2, 7, 1000, math.MaxInt, math.MaxInt - 1, math.MinInt, math.MinInt + 1, 1 << 62, -1 << 62}
}

// affines contains the identity, constants, moves, and random functions.
func affines() []Affine {
	list := []Affine{{1, 0}, {0, 0}, {0, 5}, {1, 7}, {2, 3}, {5, 7}, {math.MaxUint64, 1}, {1 << 63, 1 << 63}}
	random := rand.New(rand.NewSource(3))
	for range 6 {
		list = append(list, Affine{random.Uint64(), random.Uint64()})
	}
	return list
}

// allMaps returns every valid map for n.
func allMaps(n int) []Map {
	list := []Map{{}}
	for range n {
		var longer []Map
		for _, f := range list {
			for image := range n {
				longer = append(longer, append(slices.Clone(f), image))
			}
		}
		list = longer
	}
	return list
}

func TestP3_1Add(t *testing.T) {
	if (Add{}).Unit() != 0 {
		t.Errorf("unit: %d", Add{}.Unit())
	}
	for _, a := range ints() {
		for _, b := range ints() {
			sum := new(big.Int).Add(big.NewInt(int64(a)), big.NewInt(int64(b)))
			low := new(big.Int).And(sum, new(big.Int).SetUint64(math.MaxUint64))
			if got := (Add{}).Join(a, b); got != int(low.Uint64()) {
				t.Errorf("%d + %d: %d", a, b, got)
			}
		}
	}
	checkLaws(t, Monoid[int](Add{}), ints(), same)
}

func TestP3_1Max(t *testing.T) {
	if (Max{}).Unit() != -9223372036854775808 {
		t.Errorf("unit: %d", Max{}.Unit())
	}
	for _, a := range ints() {
		for _, b := range ints() {
			got := Max{}.Join(a, b)
			if got < a || got < b || got != a && got != b {
				t.Errorf("max of %d and %d: %d", a, b, got)
			}
		}
	}
	checkLaws(t, Monoid[int](Max{}), ints(), same)
}

func TestP3_1Affines(t *testing.T) {
	if (Affines{}).Unit() != (Affine{1, 0}) {
		t.Errorf("unit: %v", Affines{}.Unit())
	}
	if got := (Affines{}).Join(Affine{2, 3}, Affine{5, 7}); got != (Affine{10, 22}) {
		t.Errorf("2x + 3, then 5x + 7: %v", got)
	}
	apply := func(f Affine, x uint64) uint64 { return f.Mul*x + f.Add }
	for _, f := range affines() {
		for _, g := range affines() {
			h := Affines{}.Join(f, g)
			for _, x := range []uint64{0, 1, 2, 1 << 40, math.MaxUint64} {
				if apply(h, x) != apply(g, apply(f, x)) {
					t.Errorf("%v, then %v, at %d: %v", f, g, x, h)
				}
			}
		}
	}
	checkLaws(t, Monoid[Affine](Affines{}), affines(), same)
}

func TestP3_1Maps(t *testing.T) {
	for n := range 4 {
		m := Maps{n}
		identity := Map{}
		for i := range n {
			identity = append(identity, i)
		}
		if !slices.Equal(m.Unit(), identity) {
			t.Errorf("%d: unit: %v", n, m.Unit())
		}
		list := allMaps(n)
		for _, f := range list {
			for _, g := range list {
				h := m.Join(f, g)
				if len(h) != n {
					t.Fatalf("%d: %v, then %v: %v", n, f, g, h)
				}
				for i := range n {
					if h[i] != g[f[i]] {
						t.Errorf("%d: %v, then %v: %v", n, f, g, h)
					}
				}
			}
		}
		checkLaws(t, Monoid[Map](m), list, slices.Equal[Map])
	}
	m := Maps{3}
	if got := m.Join(Map{1, 2, 0}, Map{1, 2, 0}); !slices.Equal(got, Map{2, 0, 1}) {
		t.Errorf("twice the rotation: %v", got)
	}
	if got := m.Join(Map{1, 2, 0}, Map{9}); !slices.Equal(got, Map{1, 2, 0}) {
		t.Errorf("the rotation, then no valid map: %v", got)
	}
}

func TestP3_1MapsThatAreNotValid(t *testing.T) {
	m, valid, identity := Maps{3}, Map{1, 1, 2}, Map{0, 1, 2}
	for _, bad := range []Map{nil, {}, {9}, {0, 1}, {1, 2, 0, 0}, {0, 1, 2, 3}, {0, 0, 3}, {3, 0, 0}, {-1, 0, 0}, {0, 0, -1}, {0, math.MaxInt, 0}, {0, math.MinInt, 0}} {
		if got := m.Join(bad, valid); !slices.Equal(got, valid) {
			t.Errorf("%v, then %v: %v", bad, valid, got)
		}
		if got := m.Join(valid, bad); !slices.Equal(got, valid) {
			t.Errorf("%v, then %v: %v", valid, bad, got)
		}
		if got := m.Join(bad, bad); !slices.Equal(got, identity) {
			t.Errorf("twice %v: %v", bad, got)
		}
	}
	if got := (Maps{1}).Join(Map{1}, Map{0, 0}); !slices.Equal(got, Map{0}) {
		t.Errorf("1: %v", got)
	}
}

func TestP3_1MapsOfNothing(t *testing.T) {
	for _, n := range []int{0, -1, -5, math.MinInt} {
		m := Maps{n}
		if got := m.Unit(); len(got) != 0 {
			t.Errorf("%d: unit: %v", n, got)
		}
		for _, f := range []Map{nil, {}, {0}, {0, 1}, {-1}} {
			if got := m.Join(f, Map{}); len(got) != 0 {
				t.Errorf("%d: %v, then nothing: %v", n, f, got)
			}
			if got := m.Join(nil, f); len(got) != 0 {
				t.Errorf("%d: nothing, then %v: %v", n, f, got)
			}
		}
	}
}

func TestP3_1MapsReturnNewMemory(t *testing.T) {
	m := Maps{3}
	m.Unit()[0] = 2
	if got := m.Unit(); !slices.Equal(got, Map{0, 1, 2}) {
		t.Errorf("unit after a write into another one: %v", got)
	}
	for _, f := range []Map{{0, 1, 2}, {1, 2, 0}, {9}, {0, 1, 3}} {
		for _, g := range []Map{{0, 1, 2}, {2, 2, 1}, {9}, {0, 1, 3}} {
			oldF, oldG := slices.Clone(f), slices.Clone(g)
			h := m.Join(f, g)
			if !slices.Equal(f, oldF) || !slices.Equal(g, oldG) {
				t.Errorf("Join changed %v or %v", oldF, oldG)
			}
			for i := range h {
				h[i] = 7
			}
			if !slices.Equal(f, oldF) || !slices.Equal(g, oldG) {
				t.Errorf("the result of %v and %v shares their memory", oldF, oldG)
			}
		}
	}
	f := Map{1, 2, 0}
	m.Join(f, f)
	if !slices.Equal(f, Map{1, 2, 0}) {
		t.Errorf("Join of a map with itself changed it: %v", f)
	}
}

func TestP3_1Pairs(t *testing.T) {
	type both = Both[int, Affine]
	var p Pairs[int, Affine, Add, Affines]
	if got := p.Unit(); got != (both{0, Affine{1, 0}}) {
		t.Errorf("unit: %v", got)
	}
	if got := p.Join(both{3, Affine{2, 3}}, both{4, Affine{5, 7}}); got != (both{7, Affine{10, 22}}) {
		t.Errorf("join: %v", got)
	}
	var list []both
	for i, f := range affines() {
		list = append(list, both{ints()[i%len(ints())], f})
	}
	for _, a := range list {
		for _, b := range list {
			want := both{a.First + b.First, Affines{}.Join(a.Second, b.Second)}
			if got := p.Join(a, b); got != want {
				t.Errorf("%v and %v: %v", a, b, got)
			}
		}
	}
	checkLaws(t, Monoid[both](p), list, same)
}

func TestP3_1PairsUseTheirMonoids(t *testing.T) {
	p := Pairs[Map, Map, Maps, Maps]{Maps{2}, Maps{3}}
	unit := p.Unit()
	if !slices.Equal(unit.First, Map{0, 1}) || !slices.Equal(unit.Second, Map{0, 1, 2}) {
		t.Errorf("unit: %v", unit)
	}
	got := p.Join(Both[Map, Map]{Map{1, 0}, Map{1, 2, 0}}, Both[Map, Map]{Map{0, 0}, Map{2, 1, 0}})
	if !slices.Equal(got.First, Map{0, 0}) || !slices.Equal(got.Second, Map{1, 0, 2}) {
		t.Errorf("join: %v", got)
	}
}

func TestP3_1PairsOfPairs(t *testing.T) {
	type inner = Pairs[int, int, Add, Max]
	type value = Both[Both[int, int], Affine]
	var p Pairs[Both[int, int], Affine, inner, Affines]
	if got := p.Unit(); got != (value{Both[int, int]{0, math.MinInt}, Affine{1, 0}}) {
		t.Errorf("unit: %v", got)
	}
	list := []value{
		{Both[int, int]{3, 5}, Affine{2, 1}},
		{Both[int, int]{-8, 9}, Affine{3, 4}},
		{Both[int, int]{1, -5}, Affine{1, 1}},
	}
	want := value{Both[int, int]{-4, 9}, Affine{6, 8}}
	if got := Fold(p, list...); got != want {
		t.Errorf("fold: %v", got)
	}
	checkLaws(t, Monoid[value](p), list, same)
}

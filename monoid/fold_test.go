package monoid

import (
	"math"
	"math/big"
	"slices"
	"strings"
	"testing"
)

// texts is the monoid of strings with concatenation, in which the order of joins shows. It counts the calls of Join.
type texts struct{ joins *int }

func (texts) Unit() string { return "" }

func (m texts) Join(a, b string) string {
	*m.joins++
	return a + b
}

// spans is a monoid of ranges, which join only where the one ends and the other begins; all other joins give broken.
// It shows for long lists, too, which elements were joined in which order. It counts the calls of Join.
type spans struct{ joins *int }

type span struct{ from, to int }

var nothing, broken = span{-1, -1}, span{-2, -2}

func (spans) Unit() span { return nothing }

func (m spans) Join(a, b span) span {
	*m.joins++
	switch {
	case a == nothing:
		return b
	case b == nothing:
		return a
	case a == broken || b == broken || a.to != b.from:
		return broken
	}
	return span{a.from, b.to}
}

// row returns the ranges {0, 1}, {1, 2} and so on.
func row(n int) []span {
	list := make([]span, n)
	for i := range list {
		list[i] = span{i, i + 1}
	}
	return list
}

// differences is no lawful monoid.
type differences struct{ joins *int }

func (differences) Unit() int { return 3 }

func (m differences) Join(a, b int) int {
	*m.joins++
	return a - b
}

// names returns n different strings.
func names(n int) []string {
	list := make([]string, n)
	for i := range list {
		list[i] = string(rune('a' + i))
	}
	return list
}

func TestP3_2FoldExamples(t *testing.T) {
	if got := Fold(Add{}, 3, 4, 5); got != 12 {
		t.Errorf("sum: %d", got)
	}
	if got := Fold[int](Max{}); got != math.MinInt {
		t.Errorf("greatest of none: %d", got)
	}
	if got := Fold(Max{}, -7); got != -7 {
		t.Errorf("greatest of one: %d", got)
	}
	if got := Fold(Affines{}, Affine{2, 3}, Affine{5, 7}, Affine{1, 1}); got != (Affine{10, 23}) {
		t.Errorf("affine functions: %v", got)
	}
	if got := Fold[Affine](Affines{}); got != (Affine{1, 0}) {
		t.Errorf("affine functions of none: %v", got)
	}
	if got := Fold(Monoid[int](Add{}), 1, 2); got != 3 {
		t.Errorf("a monoid of an interface type: %d", got)
	}
	if got := Fold(Maps{3}, Map{1, 2, 0}, Map{9}, Map{1, 2, 0}); !slices.Equal(got, Map{2, 0, 1}) {
		t.Errorf("maps: %v", got)
	}
}

func TestP3_2Fold(t *testing.T) {
	for n := range 20 {
		joins := 0
		if got := Fold(texts{&joins}, names(n)...); got != strings.Join(names(n), "") || joins > n {
			t.Errorf("%d: %q with %d joins", n, got, joins)
		}
	}
	joins := 0
	if got := Fold(spans{&joins}, row(100000)...); got != (span{0, 100000}) || joins > 100000 {
		t.Errorf("a long list: %v with %d joins", got, joins)
	}
}

func TestP3_2Prefixes(t *testing.T) {
	if got := Prefixes(Add{}, []int{3, 4, 5}); !slices.Equal(got, []int{0, 3, 7, 12}) {
		t.Errorf("sums: %v", got)
	}
	if got := Prefixes(Max{}, nil); !slices.Equal(got, []int{math.MinInt}) {
		t.Errorf("of nil: %v", got)
	}
	if got := Prefixes(Max{}, []int{}); !slices.Equal(got, []int{math.MinInt}) {
		t.Errorf("of an empty list: %v", got)
	}
	for n := range 20 {
		joins := 0
		list := names(n)
		got := Prefixes(texts{&joins}, list)
		if len(got) != n+1 || joins > n {
			t.Fatalf("%d: %d values with %d joins", n, len(got), joins)
		}
		for i := range got {
			if got[i] != strings.Join(names(i), "") {
				t.Errorf("%d: at %d: %q", n, i, got[i])
			}
		}
		if !slices.Equal(list, names(n)) {
			t.Errorf("%d: the list was changed: %v", n, list)
		}
	}
}

func TestP3_2PrefixesOfALongList(t *testing.T) {
	const n = 50000
	joins := 0
	got := Prefixes(spans{&joins}, row(n))
	if len(got) != n+1 || got[0] != nothing || joins > n {
		t.Fatalf("%d values from %v on with %d joins", len(got), got[0], joins)
	}
	for i := 1; i <= n; i++ {
		if got[i] != (span{0, i}) {
			t.Fatalf("at %d: %v", i, got[i])
		}
	}
}

func TestP3_3PowerExamples(t *testing.T) {
	if got := Power(Affines{}, Affine{2, 1}, 3); got != (Affine{8, 7}) {
		t.Errorf("the third power of 2x + 1: %v", got)
	}
	if got := Power(Maps{3}, Map{1, 2, 0}, 1<<41+1); !slices.Equal(got, Map{0, 1, 2}) {
		t.Errorf("a power of the rotation by one: %v", got)
	}
	if got := Power(Maps{3}, Map{1, 2, 2}, 2); !slices.Equal(got, Map{2, 2, 2}) {
		t.Errorf("a square: %v", got)
	}
	for _, k := range []int{0, -1, -2, -1000, math.MinInt, math.MinInt + 1} {
		joins := 0
		if got := Power(texts{&joins}, "x", k); got != "" || joins > 128 {
			t.Errorf("%d: %q with %d joins", k, got, joins)
		}
		if got := Power(Max{}, 5, k); got != math.MinInt {
			t.Errorf("%d: %d", k, got)
		}
	}
}

func TestP3_3PowerOfSmallExponents(t *testing.T) {
	for k := range 600 {
		joins := 0
		if got := Power(texts{&joins}, "ab", k); got != strings.Repeat("ab", k) || joins > 128 {
			t.Errorf("%d: %q with %d joins", k, got, joins)
		}
	}
}

// exponents contains 0, the powers of 2 and their neighbours, and numbers with patterns of bits.
func exponents() []int {
	list := []int{math.MaxInt, math.MaxInt - 1, math.MaxInt / 3, math.MaxInt / 5, math.MaxInt / 7 * 6, 1e18, 123456789123456789}
	for i := range 63 {
		list = append(list, 1<<i, 1<<i-1, 1<<i+1)
	}
	return list
}

func TestP3_3PowerOfLargeExponents(t *testing.T) {
	word := new(big.Int).Lsh(big.NewInt(1), 64)
	for _, k := range exponents() {
		for _, mul := range []uint64{1, 3, 5, math.MaxUint64, 0x9E3779B97F4A7C15} {
			// The Add of the power of x*mul + 1 is the sum of the powers of mul that are less than the k-th.
			got := Power(Affines{}, Affine{mul, 1}, k)
			want := new(big.Int).Exp(new(big.Int).SetUint64(mul), big.NewInt(int64(k)), word)
			if got.Mul != want.Uint64() {
				t.Errorf("%d: the Mul of %d: %v", k, mul, got)
			}
			if got.Add*(mul-1) != got.Mul-1 {
				t.Errorf("%d: the Add of %d: %v", k, mul, got)
			}
		}
		if got := Power(Add{}, 7, k); got != 7*k {
			t.Errorf("%d: the sum of sevens: %d", k, got)
		}
	}
}

// counted is the monoid of sums that counts the calls of Join.
type counted struct{ joins *int }

func (counted) Unit() int { return 0 }

func (m counted) Join(a, b int) int {
	*m.joins++
	return a + b
}

func TestP3_3PowerJoins(t *testing.T) {
	for _, k := range exponents() {
		joins := 0
		if got := Power(counted{&joins}, 3, k); got != 3*k || joins > 128 {
			t.Errorf("%d: %d with %d joins", k, got, joins)
		}
	}
}

func TestP3_4WindowExamples(t *testing.T) {
	list := []int{5, 1, 4, 2}
	for n, want := range [][]int{nil, {5, 1, 4, 2}, {5, 4, 4}, {5, 4}, {5}, nil} {
		if got := Window(Max{}, list, n); !slices.Equal(got, want) || want == nil && got != nil {
			t.Errorf("%d: %v", n, got)
		}
	}
	for _, n := range []int{-1, -4, 6, 100, math.MaxInt, math.MinInt, math.MinInt + 3} {
		if got := Window(Max{}, list, n); got != nil {
			t.Errorf("%d: %v", n, got)
		}
	}
	for _, n := range []int{-1, 0, 1, math.MaxInt, math.MinInt} {
		if Window(Max{}, nil, n) != nil || Window(Max{}, []int{}, n) != nil {
			t.Errorf("%d of no elements", n)
		}
	}
}

func TestP3_4Window(t *testing.T) {
	for size := range 26 {
		for n := 1; n <= size; n++ {
			joins := 0
			list := names(size)
			got := Window(texts{&joins}, list, n)
			if len(got) != size-n+1 || joins > 4*size {
				t.Fatalf("%d of %d: %d values with %d joins", n, size, len(got), joins)
			}
			for i := range got {
				if got[i] != strings.Join(list[i:i+n], "") {
					t.Errorf("%d of %d: at %d: %q", n, size, i, got[i])
				}
			}
			if !slices.Equal(list, names(size)) {
				t.Errorf("%d of %d: the list was changed: %v", n, size, list)
			}
		}
	}
}

func TestP3_4WindowOfLongLists(t *testing.T) {
	for _, size := range []int{1000, 30011} {
		for _, n := range []int{1, 2, 3, 10, 31, 250, 333, size / 3, size/2 - 1, size / 2, size/2 + 1, size - 2, size - 1, size} {
			joins := 0
			got := Window(spans{&joins}, row(size), n)
			if len(got) != size-n+1 || joins > 4*size {
				t.Fatalf("%d of %d: %d values with %d joins", n, size, len(got), joins)
			}
			for i := range got {
				if got[i] != (span{i, i + n}) {
					t.Fatalf("%d of %d: at %d: %v", n, size, i, got[i])
				}
			}
		}
	}
}

func TestP3_4WindowsReturnNewMemory(t *testing.T) {
	list := []int{5, 1, 4, 2}
	for n := 1; n <= 4; n++ {
		clear(Window(Add{}, list, n))
	}
	clear(Prefixes(Add{}, list))
	if !slices.Equal(list, []int{5, 1, 4, 2}) {
		t.Errorf("a result shares the memory of the list: %v", list)
	}
}

func TestP3_4FoldsKeepTheElements(t *testing.T) {
	list := []Map{{1, 2, 0}, {0, 0, 2}, {2, 1, 0}, {1, 1, 1}}
	Fold(Maps{3}, list...)
	Prefixes(Maps{3}, list)
	for n := range 5 {
		Window(Maps{3}, list, n)
	}
	Power(Maps{3}, list[0], 13)
	for i, want := range []Map{{1, 2, 0}, {0, 0, 2}, {2, 1, 0}, {1, 1, 1}} {
		if !slices.Equal(list[i], want) {
			t.Errorf("element %d was changed: %v", i, list[i])
		}
	}
}

func TestP3_4UnlawfulMonoidsTerminate(t *testing.T) {
	list := []int{4, 8, 1, 9, 9, 2, 0}
	joins := 0
	m := differences{&joins}
	Fold(m, list...)
	if got := Prefixes(m, list); len(got) != 8 || joins > 14 {
		t.Errorf("%d prefixes with %d joins", len(got), joins)
	}
	for n := 1; n <= 7; n++ {
		joins = 0
		if got := Window(m, list, n); len(got) != 8-n || joins > 28 {
			t.Errorf("%d windows of %d with %d joins", len(got), n, joins)
		}
	}
	for _, k := range []int{math.MinInt, 0, 1, math.MaxInt} {
		joins = 0
		if Power(m, 5, k); joins > 128 {
			t.Errorf("power %d with %d joins", k, joins)
		}
	}
}

package letterset

import (
	"math/rand"
	"slices"
	"testing"

	"evergreen/api"
)

// model is a set of letters, told letter by letter.
type model [256]bool

// expand reads the words of a set as the document defines them.
func expand(s api.Letters) model {
	var m model
	for b := range 256 {
		m[b] = s[b/64]&(1<<(b%64)) != 0
	}
	return m
}

// collect returns the set of the letters for which in holds.
func collect(in func(b int) bool) api.Letters {
	var s api.Letters
	for b := range 256 {
		if in(b) {
			s[b/64] |= 1 << (b % 64)
		}
	}
	return s
}

// samples contains small sets, sets at the edges of words, large sets, and random ones.
func samples() []api.Letters {
	full := collect(func(b int) bool { return true })
	list := []api.Letters{
		{}, full,
		{1, 0, 0, 0}, {0, 0, 0, 1 << 63}, {1 << 63, 1, 0, 0}, {0, 1 << 63, 1, 0}, {0, 0, 1 << 63, 1},
		collect(func(b int) bool { return b >= 'a' && b <= 'z' }),
		collect(func(b int) bool { return b >= 'A' && b <= 'Z' }),
		collect(func(b int) bool { return b == '@' || b == '[' || b == '`' || b == '{' }),
		collect(func(b int) bool { return b%2 == 0 }),
		collect(func(b int) bool { return b%3 == 0 }),
		collect(func(b int) bool { return b%3 != 1 }),
		collect(func(b int) bool { return b < 128 }),
		collect(func(b int) bool { return b > 200 || b < 4 }),
	}
	random := rand.New(rand.NewSource(2))
	for i := range 40 {
		odds := []float64{0.01, 0.1, 0.5, 0.9, 0.99}[i%5]
		list = append(list, collect(func(b int) bool { return random.Float64() < odds }))
	}
	return list
}

func TestP2_1Of(t *testing.T) {
	for _, letters := range [][]byte{nil, {}, {0}, {255}, {63, 64, 127, 128, 191, 192}, {'b', 'a', 'b', 'b'}} {
		want := collect(func(b int) bool { return slices.Contains(letters, byte(b)) })
		if got := Of(letters...); got != want {
			t.Errorf("Of(%v): %v", letters, got)
		}
	}
	for b := range 256 {
		if got := Of(byte(b)); got != collect(func(c int) bool { return c == b }) {
			t.Errorf("Of(%d): %v", b, got)
		}
	}
	if got := Of('a', 'c'); got != (api.Letters{0, 1<<33 | 1<<35, 0, 0}) {
		t.Errorf("Of(a, c): %v", got)
	}
}

func TestP2_1OfKeepsItsArguments(t *testing.T) {
	letters := []byte{'c', 'a', 'c'}
	Of(letters...)
	if string(letters) != "cac" {
		t.Errorf("Of changed its arguments: %v", letters)
	}
}

func TestP2_1Between(t *testing.T) {
	for low := range 256 {
		for high := range 256 {
			want := collect(func(b int) bool { return low <= b && b <= high })
			if got := Between(byte(low), byte(high)); got != want {
				t.Fatalf("Between(%d, %d): %v", low, high, got)
			}
		}
	}
}

func TestP2_1HasAndLen(t *testing.T) {
	for _, s := range samples() {
		n := 0
		for b, want := range expand(s) {
			if want {
				n++
			}
			if got := Has(s, byte(b)); got != want {
				t.Errorf("Has(%v, %d): %t", s, b, got)
			}
		}
		if got := Len(s); got != n {
			t.Errorf("Len(%v): %d; want %d", s, got, n)
		}
	}
	if Len(api.Letters{}) != 0 || Len(Between(0, 255)) != 256 || Len(Of('x')) != 1 {
		t.Error("Len of the empty set, the full one, or one letter")
	}
}

func TestP2_1OperationsAgreeWithTheLetters(t *testing.T) {
	for _, a := range samples() {
		for _, b := range samples() {
			x, y := expand(a), expand(b)
			for _, c := range []struct {
				name      string
				got, want api.Letters
			}{
				{"Union", Union(a, b), collect(func(i int) bool { return x[i] || y[i] })},
				{"Meet", Meet(a, b), collect(func(i int) bool { return x[i] && y[i] })},
				{"Minus", Minus(a, b), collect(func(i int) bool { return x[i] && !y[i] })},
				{"Not", Not(a), collect(func(i int) bool { return !x[i] })},
			} {
				if c.got != c.want {
					t.Fatalf("%s of %v and %v: %v; want %v", c.name, a, b, c.got, c.want)
				}
			}
		}
	}
}

func TestP2_1All(t *testing.T) {
	for _, s := range samples() {
		var want []byte
		for b, in := range expand(s) {
			if in {
				want = append(want, byte(b))
			}
		}
		letters := All(s)
		// The iterator begins anew with each loop.
		for range 2 {
			if got := slices.Collect(letters); !slices.Equal(got, want) {
				t.Fatalf("All(%v): %v; want %v", s, got, want)
			}
		}
	}
}

func TestP2_1AllStops(t *testing.T) {
	s := Of(0, 7, 100, 255)
	for stop := range 4 {
		var got []byte
		All(s)(func(b byte) bool {
			got = append(got, b)
			return len(got) <= stop
		})
		if want := []byte{0, 7, 100, 255}[:stop+1]; !slices.Equal(got, want) {
			t.Errorf("All, left after %d letters: %v", stop+1, got)
		}
	}
}

func TestP2_1Fold(t *testing.T) {
	for b := range 256 {
		other := b
		if b >= 'a' && b <= 'z' {
			other = b - 32
		}
		if b >= 'A' && b <= 'Z' {
			other = b + 32
		}
		if got, want := Fold(Of(byte(b))), Of(byte(b), byte(other)); got != want {
			t.Errorf("Fold of %d: %v; want %v", b, got, want)
		}
	}
	for _, s := range samples() {
		var want api.Letters
		for b := range All(s) {
			want = Union(want, Fold(Of(b)))
		}
		if got := Fold(s); got != want {
			t.Errorf("Fold(%v): %v; want %v", s, got, want)
		}
	}
}

func TestP2_2TwoSets(t *testing.T) {
	none, full := api.Letters{}, Between(0, 255)
	for _, a := range samples() {
		for _, b := range samples() {
			for name, holds := range map[string]bool{
				"union commutes":        Union(a, b) == Union(b, a),
				"meet commutes":         Meet(a, b) == Meet(b, a),
				"union absorbs":         Union(a, Meet(a, b)) == a,
				"meet absorbs":          Meet(a, Union(a, b)) == a,
				"neutral of union":      Union(a, none) == a,
				"neutral of meet":       Meet(a, full) == a,
				"zero of union":         Union(a, full) == full,
				"zero of meet":          Meet(a, none) == none,
				"complements unite":     Union(a, Not(a)) == full,
				"complements are apart": Meet(a, Not(a)) == none,
				"complement twice":      Not(Not(a)) == a,
				"complement of a union": Not(Union(a, b)) == Meet(Not(a), Not(b)),
				"complement of a meet":  Not(Meet(a, b)) == Union(Not(a), Not(b)),
				"difference":            Minus(a, b) == Meet(a, Not(b)),
				"idempotent":            Union(a, a) == a && Meet(a, a) == a,
				"sizes add up":          Len(Union(a, b))+Len(Meet(a, b)) == Len(a)+Len(b),
			} {
				if !holds {
					t.Fatalf("%s: not with %v and %v", name, a, b)
				}
			}
		}
	}
}

func TestP2_2ThreeSets(t *testing.T) {
	list := samples()
	for i, a := range list {
		for j, b := range list {
			c := list[(7*i+3*j)%len(list)]
			for name, holds := range map[string]bool{
				"union associates":           Union(a, Union(b, c)) == Union(Union(a, b), c),
				"meet associates":            Meet(a, Meet(b, c)) == Meet(Meet(a, b), c),
				"meet distributes":           Meet(a, Union(b, c)) == Union(Meet(a, b), Meet(a, c)),
				"union distributes":          Union(a, Meet(b, c)) == Meet(Union(a, b), Union(a, c)),
				"difference with a union":    Minus(a, Union(b, c)) == Meet(Minus(a, b), Minus(a, c)),
				"difference of a difference": Minus(a, Minus(b, c)) == Union(Minus(a, b), Meet(a, c)),
			} {
				if !holds {
					t.Fatalf("%s: not with %v, %v and %v", name, a, b, c)
				}
			}
		}
	}
}

package letterset

import (
	"fmt"
	"math/rand"
	"slices"
	"testing"

	"evergreen/api"
)

// wantAtoms groups the letters by which of the sets contain them.
func wantAtoms(sets []api.Letters) []api.Letters {
	place := map[string]int{}
	var parts []api.Letters
	for b := range 256 {
		in := ""
		for _, s := range sets {
			in += fmt.Sprint(expand(s)[b], " ")
		}
		i, known := place[in]
		if !known {
			i = len(parts)
			place[in] = i
			parts = append(parts, api.Letters{})
		}
		parts[i][b/64] |= 1 << (b % 64)
	}
	return parts
}

// groups contains lists of sets for Atoms.
func groups() [][]api.Letters {
	var bitwise, singles []api.Letters
	for k := range 8 {
		bitwise = append(bitwise, collect(func(b int) bool { return b>>k&1 == 1 }))
	}
	for b := range 256 {
		singles = append(singles, Of(byte(b)))
	}
	list := [][]api.Letters{
		nil, {}, {Of()}, {Of(), Of()}, {Between(0, 255)}, {Of(), Between(0, 255)},
		{Of('a')}, {Of(0)}, {Of(255)}, {Of('a'), Of('a')}, {Of('a'), Not(Of('a'))}, {Of('b'), Of('a')},
		{Between('a', 'm'), Between('k', 'z')}, {Between('k', 'z'), Between('a', 'm')},
		{Between('a', 'z'), Between('f', 'g')}, {Of(0, 255), Of(0)}, {Of(63, 64), Of(127, 128), Of(64, 192)},
		bitwise, singles, singles[1:], samples(),
	}
	random := rand.New(rand.NewSource(4))
	for range 60 {
		var sets []api.Letters
		for range random.Intn(7) {
			sets = append(sets, samples()[random.Intn(len(samples()))])
		}
		list = append(list, sets)
	}
	return list
}

func TestP2_1Atoms(t *testing.T) {
	for _, sets := range groups() {
		if got, want := Atoms(sets...), wantAtoms(sets); !slices.Equal(got, want) {
			t.Fatalf("Atoms(%v): %v; want %v", sets, got, want)
		}
	}
}

func TestP2_1AtomsExamples(t *testing.T) {
	if got := Atoms(); !slices.Equal(got, []api.Letters{Between(0, 255)}) {
		t.Errorf("Atoms of no sets: %v", got)
	}
	if got := Atoms(Of('a')); !slices.Equal(got, []api.Letters{Not(Of('a')), Of('a')}) {
		t.Errorf("Atoms of a: %v", got)
	}
	if got := Atoms(Of(0)); !slices.Equal(got, []api.Letters{Of(0), Between(1, 255)}) {
		t.Errorf("Atoms of 0: %v", got)
	}
}

func TestP2_1AtomsKeepsItsArguments(t *testing.T) {
	sets := []api.Letters{Of('b'), Of('a')}
	parts := Atoms(sets...)
	parts[0] = api.Letters{}
	if !slices.Equal(sets, []api.Letters{Of('b'), Of('a')}) {
		t.Errorf("Atoms changed its arguments: %v", sets)
	}
	if again := Atoms(sets...); len(again) != 3 || Len(again[0]) != 254 {
		t.Errorf("Atoms shares its result: %v", again)
	}
}

func TestP2_4AtomsArePartition(t *testing.T) {
	for _, sets := range groups() {
		parts := Atoms(sets...)
		var all api.Letters
		for _, part := range parts {
			if Len(part) == 0 {
				t.Fatalf("Atoms(%v): an empty part", sets)
			}
			if Meet(all, part) != (api.Letters{}) {
				t.Fatalf("Atoms(%v): two parts overlap", sets)
			}
			all = Union(all, part)
		}
		if Len(all) != 256 {
			t.Fatalf("Atoms(%v): %d letters", sets, Len(all))
		}
	}
}

func TestP2_4SetsAreUnionsOfAtoms(t *testing.T) {
	for _, sets := range groups() {
		parts := Atoms(sets...)
		for _, s := range sets {
			var inside api.Letters
			for _, part := range parts {
				if Meet(part, s) == part {
					inside = Union(inside, part)
				}
			}
			if inside != s {
				t.Fatalf("Atoms(%v): %v is no union of parts", sets, s)
			}
		}
	}
}

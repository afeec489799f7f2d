package weight

import (
	"bytes"
	"fmt"
	"math"
	"math/big"
	"math/rand"
	"slices"
	"strings"
	"testing"

	"evergreen/api"
)

const (
	base = 1103515245
	p    = uint64(1<<61 - 1)
	most = 1 << 60
)

var bigP = new(big.Int).SetUint64(p)

// modelPower returns x to the power n modulo P.
func modelPower(x uint64, n int) uint64 {
	return new(big.Int).Exp(new(big.Int).SetUint64(x), big.NewInt(int64(n)), bigP).Uint64()
}

// modelDigest evaluates the definition: the sum of (letter + 1) * base^(letters after it), and base^length.
func modelDigest(text []byte) api.Digest {
	sum := new(big.Int)
	for i, letter := range text {
		term := new(big.Int).SetUint64(modelPower(base, len(text)-1-i))
		sum.Add(sum, term.Mul(term, big.NewInt(int64(letter)+1)))
	}
	return api.Digest{Value: sum.Mod(sum, bigP).Uint64(), Scale: modelPower(base, len(text))}
}

// modelOf takes the text apart at its line feeds.
func modelOf(text []byte) api.Weight {
	lines := strings.Split(string(text), "\n")
	return api.Weight{
		Length: len(text),
		Lines:  len(lines) - 1,
		Head:   len(lines[0]),
		Tail:   len(lines[len(lines)-1]),
		Digest: modelDigest(text),
	}
}

// modelValid evaluates the definition with integers that do not overflow.
func modelValid(w api.Weight) bool {
	if w.Length < 0 || w.Length > most || w.Digest.Value >= p || w.Digest.Scale != modelPower(base, w.Length) {
		return false
	}
	if w.Length == 0 && w.Digest.Value != 0 {
		return false
	}
	sum := big.NewInt(int64(w.Head))
	sum.Add(sum, big.NewInt(int64(w.Tail)))
	switch {
	case w.Lines == 0:
		return w.Head == w.Length && w.Tail == w.Length
	case w.Lines == 1:
		return w.Head >= 0 && w.Tail >= 0 && sum.Add(sum, big.NewInt(1)).Cmp(big.NewInt(int64(w.Length))) == 0
	case w.Lines >= 2:
		return w.Head >= 0 && w.Tail >= 0 && sum.Add(sum, big.NewInt(int64(w.Lines))).Cmp(big.NewInt(int64(w.Length))) <= 0
	}
	return false
}

// modelJoin joins two valid weights that fit together.
func modelJoin(a, b api.Weight) api.Weight {
	value := new(big.Int).SetUint64(a.Digest.Value)
	value.Mul(value, new(big.Int).SetUint64(b.Digest.Scale))
	value.Add(value, new(big.Int).SetUint64(b.Digest.Value))
	w := api.Weight{Length: a.Length + b.Length, Lines: a.Lines + b.Lines, Head: a.Head, Tail: b.Tail}
	if a.Lines == 0 {
		w.Head = a.Length + b.Head
	}
	if b.Lines == 0 {
		w.Tail = b.Length + a.Tail
	}
	w.Digest = api.Digest{Value: value.Mod(value, bigP).Uint64(), Scale: modelPower(base, w.Length)}
	return w
}

// modelRepeat doubles a valid weight whose copies fit together, digit by digit of k from the highest one on.
func modelRepeat(w api.Weight, k int) api.Weight {
	result := modelOf(nil)
	for i := 62; i >= 0; i-- {
		result = modelJoin(result, result)
		if k>>i&1 == 1 {
			result = modelJoin(result, w)
		}
	}
	return result
}

// of returns a weight with these fields and the Scale of its length.
func of(length, lines, head, tail int, value uint64) api.Weight {
	return api.Weight{Length: length, Lines: lines, Head: head, Tail: tail, Digest: api.Digest{Value: value, Scale: modelPower(base, length)}}
}

// shortTexts returns all texts of at most n letters of an alphabet that contains the line feed.
func shortTexts(n int) [][]byte {
	list := [][]byte{{}}
	level := list
	for range n {
		var next [][]byte
		for _, text := range level {
			for _, letter := range []byte{'a', '\n', 0} {
				next = append(next, append(slices.Clone(text), letter))
			}
		}
		list = append(list, next...)
		level = next
	}
	return list
}

// longTexts returns texts of any letters, the same ones in every run.
func longTexts() [][]byte {
	list := [][]byte{
		bytes.Repeat([]byte{'\n'}, 100), bytes.Repeat([]byte{0}, 100), bytes.Repeat([]byte{255}, 100),
		[]byte("one\ntwo\nthree"), []byte("\none\ntwo\n"), []byte("\r\n\r\n"), []byte("\v\t\f"),
	}
	source := rand.New(rand.NewSource(8))
	for n := range 40 {
		text := make([]byte, 20*n)
		source.Read(text)
		list = append(list, text)
	}
	return list
}

// valids returns weights of texts, and valid ones that are given by their fields, up to the greatest length.
func valids() []api.Weight {
	var list []api.Weight
	for _, text := range shortTexts(2) {
		list = append(list, modelOf(text))
	}
	for _, n := range []int{1, 2, 3, 7, 1 << 30, 1 << 59, most/2 - 1, most - 1, most} {
		list = append(list, of(n, 0, n, n, 0), of(n, 0, n, n, p-1), of(n, 1, 0, n-1, 5), of(n, 1, n-1, 0, p-1))
		if n > 2 {
			list = append(list, of(n, 1, n/2, n-n/2-1, 1), of(n, 2, n/3, n-n/3-2, 2), of(n, 2, 0, 0, 3))
			list = append(list, of(n, n, 0, 0, 4), of(n, n-1, 0, 1, 5), of(n, n-1, 1, 0, 6))
		}
		if n > 3 {
			list = append(list, of(n, n/2, n/4, n/4, 7))
		}
	}
	return list
}

// invalids returns weights with one field that does not fit the others.
func invalids() []api.Weight {
	list := []api.Weight{{}, of(0, 0, 0, 0, 1), of(-1, 0, -1, -1, 0), of(most+1, 0, most+1, most+1, 0)}
	for _, w := range []api.Weight{of(0, 0, 0, 0, 0), of(3, 0, 3, 3, 9), of(3, 1, 1, 1, 9), of(9, 2, 3, 4, 9), of(most, 0, most, most, 9)} {
		for _, by := range []int{-1, 1, math.MinInt, math.MaxInt} {
			a, b, c, d, e := w, w, w, w, w
			a.Length += by
			b.Lines += by
			c.Head += by
			d.Tail += by
			e.Digest.Scale += uint64(by)
			list = append(list, a, b, c, d, e)
		}
		w.Digest.Value = p
		list = append(list, w)
	}
	return slices.DeleteFunc(list, modelValid)
}

// check reports a result that is not the wanted one.
func check(t *testing.T, name string, got api.Weight, err error, want api.Weight) {
	t.Helper()
	if got != want || err != nil {
		t.Errorf("%s is %v, %v, not %v", name, got, err, want)
	}
}

// refuse reports a result that is not the error alone.
func refuse(t *testing.T, name string, got api.Weight, err error, want api.Errno) {
	t.Helper()
	if got != (api.Weight{}) || err != want {
		t.Errorf("%s is %v, %v, not the error %v", name, got, err, want)
	}
}

func TestP6_1Examples(t *testing.T) {
	for _, c := range []struct {
		name                      string
		got                       api.Weight
		length, lines, head, tail int
	}{
		{`Unit()`, Unit(), 0, 0, 0, 0},
		{`Letter('a')`, Letter('a'), 1, 0, 1, 1},
		{`Letter('\n')`, Letter('\n'), 1, 1, 0, 0},
		{`Of("a\nbc")`, Of([]byte("a\nbc")), 4, 1, 1, 2},
		{`Of("\n")`, Of([]byte("\n")), 1, 1, 0, 0},
		{`Of("\n\n")`, Of([]byte("\n\n")), 2, 2, 0, 0},
		{`Of("ab\ncde\nf\n")`, Of([]byte("ab\ncde\nf\n")), 9, 3, 2, 0},
	} {
		got := [4]int{c.got.Length, c.got.Lines, c.got.Head, c.got.Tail}
		if want := [4]int{c.length, c.lines, c.head, c.tail}; got != want {
			t.Errorf("%s has Length, Lines, Head, Tail %v, not %v", c.name, got, want)
		}
	}
	if got := Of([]byte("ab")).Digest; got != (api.Digest{Value: 108144494109, Scale: 1217745895947410025}) {
		t.Errorf("the digest of ab is %v", got)
	}
	joined, err := Join(Of([]byte("ab")), Of([]byte("c\n")))
	check(t, `Join(Of("ab"), Of("c\n"))`, joined, err, of(4, 1, 3, 0, modelDigest([]byte("abc\n")).Value))
	repeated, err := Repeat(Of([]byte("a\n")), 3)
	check(t, `Repeat(Of("a\n"), 3)`, repeated, err, of(6, 3, 1, 0, modelDigest([]byte("a\na\na\n")).Value))
	repeated, err = Repeat(Letter(0), most+1)
	refuse(t, "Repeat(Letter(0), 2^60 + 1)", repeated, err, api.ErrLong)
}

func TestP6_1Unit(t *testing.T) {
	want := api.Weight{Digest: api.Digest{Value: 0, Scale: 1}}
	check(t, "Unit()", Unit(), nil, want)
	check(t, "Of(nil)", Of(nil), nil, want)
	check(t, "Of({})", Of([]byte{}), nil, want)
}

func TestP6_1Letter(t *testing.T) {
	for b := range 256 {
		check(t, fmt.Sprintf("Letter(%d)", b), Letter(byte(b)), nil, modelOf([]byte{byte(b)}))
	}
}

func TestP6_1Of(t *testing.T) {
	for _, text := range append(shortTexts(6), longTexts()...) {
		check(t, fmt.Sprintf("Of(%q)", text), Of(text), nil, modelOf(text))
	}
}

// A text may have more letters than are passed at once elsewhere.
func TestP6_1OfLongText(t *testing.T) {
	line := []byte("evergreen\n")
	check(t, "the weight of the long text", Of(bytes.Repeat(line, 200000)), nil, modelRepeat(modelOf(line), 200000))
	letters := bytes.Repeat([]byte("evergreen"), 200000)
	check(t, "the weight of the long line", Of(letters), nil, modelRepeat(modelOf([]byte("evergreen")), 200000))
}

func TestP6_1OfKeepsItsArgument(t *testing.T) {
	text := []byte("ab\ncd\n")
	Of(text[:3])
	if string(text) != "ab\ncd\n" {
		t.Errorf("the text is %q now", text)
	}
}

func TestP6_1Join(t *testing.T) {
	for _, a := range valids() {
		for _, b := range valids() {
			got, err := Join(a, b)
			name := fmt.Sprintf("Join(%v, %v)", a, b)
			if a.Length+b.Length > most {
				refuse(t, name, got, err, api.ErrLong)
				continue
			}
			check(t, name, got, err, modelJoin(a, b))
			if !modelValid(got) {
				t.Errorf("%s is %v, which is not valid", name, got)
			}
		}
	}
}

func TestP6_1JoinAtTheGreatestLength(t *testing.T) {
	whole := of(most, 0, most, most, 7)
	got, err := Join(of(most-1, 0, most-1, most-1, 7), Letter('\n'))
	check(t, "2^60 - 1 letters and a line feed", got, err, modelJoin(of(most-1, 0, most-1, most-1, 7), modelOf([]byte("\n"))))
	got, err = Join(whole, Unit())
	check(t, "2^60 letters and the unit", got, err, whole)
	got, err = Join(whole, Letter(0))
	refuse(t, "2^60 letters and a letter", got, err, api.ErrLong)
	got, err = Join(Letter(0), whole)
	refuse(t, "a letter and 2^60 letters", got, err, api.ErrLong)
	got, err = Join(whole, whole)
	refuse(t, "2^60 letters twice", got, err, api.ErrLong)
}

// The form of both weights is checked before their lengths.
func TestP6_1JoinOfInvalidWeights(t *testing.T) {
	for _, bad := range invalids() {
		for _, good := range []api.Weight{Unit(), Letter('a'), of(most, 0, most, most, 1), of(most, most, 0, 0, 1)} {
			got, err := Join(bad, good)
			refuse(t, fmt.Sprintf("Join(%v, %v)", bad, good), got, err, api.ErrForm)
			got, err = Join(good, bad)
			refuse(t, fmt.Sprintf("Join(%v, %v)", good, bad), got, err, api.ErrForm)
		}
		got, err := Join(bad, bad)
		refuse(t, fmt.Sprintf("Join(%v, itself)", bad), got, err, api.ErrForm)
	}
}

func TestP6_1RepeatFewTimes(t *testing.T) {
	for _, w := range valids() {
		want := modelOf(nil)
		for k := range 12 {
			got, err := Repeat(w, k)
			name := fmt.Sprintf("Repeat(%v, %d)", w, k)
			if k > 0 && w.Length > most/k {
				refuse(t, name, got, err, api.ErrLong)
				continue
			}
			if k > 0 {
				want = modelJoin(want, w)
			}
			check(t, name, got, err, want)
			if !modelValid(got) {
				t.Errorf("%s is %v, which is not valid", name, got)
			}
		}
	}
}

func TestP6_1RepeatManyTimes(t *testing.T) {
	counts := []int{100, 1 << 29, 1 << 30, 1<<30 + 1, most/7 - 1, most / 7, most/7 + 1, most / 3, most/3 + 1, most / 2, most/2 + 1,
		most - 1, most, most + 1, int(p), 1 << 62, 1<<62 + 1, 1<<62 + 1<<61, math.MaxInt - 1, math.MaxInt}
	for _, w := range valids() {
		for _, k := range counts {
			got, err := Repeat(w, k)
			name := fmt.Sprintf("Repeat(%v, %d)", w, k)
			if w.Length > most/k {
				refuse(t, name, got, err, api.ErrLong)
			} else {
				check(t, name, got, err, modelRepeat(w, k))
			}
		}
	}
}

func TestP6_1RepeatNegativeTimes(t *testing.T) {
	for _, w := range valids() {
		for _, k := range []int{-1, -2, -most - 1, math.MinInt + 1, math.MinInt} {
			got, err := Repeat(w, k)
			refuse(t, fmt.Sprintf("Repeat(%v, %d)", w, k), got, err, api.ErrRange)
		}
	}
}

// The form of the weight is checked before the number of copies.
func TestP6_1RepeatOfInvalidWeights(t *testing.T) {
	for _, w := range invalids() {
		for _, k := range []int{math.MinInt, -1, 0, 1, 2, most, most + 1, math.MaxInt} {
			got, err := Repeat(w, k)
			refuse(t, fmt.Sprintf("Repeat(%v, %d)", w, k), got, err, api.ErrForm)
		}
	}
}

// numbers returns the borders of lengths, and numbers whose sums wrap around.
func numbers() []int {
	return []int{math.MinInt, math.MinInt + 2, -1 << 62, -most, -2, -1, 0, 1, 2, 3, 4, most - 2, most - 1, most, most + 1, 1 << 61, 1 << 62, math.MaxInt - 1, math.MaxInt}
}

func TestP6_1ValidByLines(t *testing.T) {
	for _, length := range numbers() {
		scale := modelPower(base, length)
		for _, lines := range numbers() {
			for _, head := range numbers() {
				for _, tail := range numbers() {
					w := api.Weight{Length: length, Lines: lines, Head: head, Tail: tail, Digest: api.Digest{Scale: scale}}
					checkValid(t, w)
				}
			}
		}
	}
}

func TestP6_1ValidAtSmallLengths(t *testing.T) {
	for length := -1; length < 7; length++ {
		for lines := -2; lines < 8; lines++ {
			for head := -2; head < 8; head++ {
				for tail := -2; tail < 8; tail++ {
					checkValid(t, of(length, lines, head, tail, 0))
				}
			}
		}
	}
}

func TestP6_1ValidByDigest(t *testing.T) {
	for _, w := range valids() {
		checkValid(t, w)
		for _, value := range []uint64{0, 1, p - 1, p, p + 1, 2 * p, 1 << 63, math.MaxUint64} {
			w.Digest.Value = value
			checkValid(t, w)
		}
		w.Digest.Value = 0
		scale := w.Digest.Scale
		for _, other := range []uint64{0, 1, base, scale - 1, scale + 1, scale + p, scale + 7*p, scale / 2, math.MaxUint64} {
			w.Digest.Scale = other
			checkValid(t, w)
		}
	}
}

// checkValid compares Valid with its definition.
func checkValid(t *testing.T, w api.Weight) {
	t.Helper()
	if got, want := Valid(w), modelValid(w); got != want {
		t.Errorf("Valid(%v) is %v, not %v", w, got, want)
	}
}

func TestP6_1ValidExamples(t *testing.T) {
	for _, c := range []struct {
		w    api.Weight
		want bool
	}{
		{api.Weight{}, false}, // the Scale of the empty text is 1
		{of(0, 0, 0, 0, 0), true},
		{of(0, 0, 0, 0, 1), false},
		{of(1, 0, 1, 1, 0), true}, // no letter has the Value 0, but a weight of this length may
		{of(3, 0, 3, 2, 9), false},
		{of(3, 0, 2, 3, 9), false},
		{of(3, 1, 1, 1, 9), true},
		{of(3, 1, 1, 0, 9), false},
		{of(3, 1, -1, 3, 9), false},
		{of(3, 2, 1, 0, 9), true},
		{of(4, 2, 1, 0, 9), true},
		{of(2, 2, 1, 0, 9), false},
		{of(4, 2, -1, 1, 9), false},
		{of(4, 2, math.MaxInt, math.MaxInt, 9), false}, // the sum wraps around to 0
		{of(most, most, 0, 0, p-1), true},
		{of(most, most, 0, 0, p), false},
		{of(most, most+1, 0, 0, 9), false},
		{of(most+1, 0, most+1, most+1, 9), false},
	} {
		if got := Valid(c.w); got != c.want {
			t.Errorf("Valid(%v) is %v", c.w, got)
		}
	}
}

func TestP6_1WeightsOfTextsAreValid(t *testing.T) {
	for _, text := range append(shortTexts(5), longTexts()...) {
		if w := Of(text); !Valid(w) {
			t.Errorf("the weight %v of %q is not valid", w, text)
		}
	}
}

func TestP6_2Unit(t *testing.T) {
	for _, w := range valids() {
		left, err := Join(Unit(), w)
		check(t, fmt.Sprintf("Join(Unit(), %v)", w), left, err, w)
		right, err := Join(w, Unit())
		check(t, fmt.Sprintf("Join(%v, Unit())", w), right, err, w)
	}
}

func TestP6_2JoinIsAssociative(t *testing.T) {
	list := valids()
	for _, a := range list {
		for _, b := range list {
			for _, c := range list {
				if a.Length+b.Length+c.Length <= most {
					checkAssociative(t, a, b, c)
				}
			}
		}
	}
}

func checkAssociative(t *testing.T, a, b, c api.Weight) {
	t.Helper()
	left := joinAll(t, joinAll(t, a, b), c)
	right := joinAll(t, a, joinAll(t, b, c))
	if left != right {
		t.Errorf("the joins of %v, %v and %v are %v and %v", a, b, c, left, right)
	}
}

// joinAll joins weights from the left.
func joinAll(t *testing.T, list ...api.Weight) api.Weight {
	t.Helper()
	result := Unit()
	for _, w := range list {
		joined, err := Join(result, w)
		if err != nil {
			t.Fatalf("Join(%v, %v) returns %v", result, w, err)
		}
		result = joined
	}
	return result
}

func TestP6_3TextsInTwoParts(t *testing.T) {
	for _, text := range append(shortTexts(6), longTexts()...) {
		for i := range len(text) + 1 {
			if got := joinAll(t, Of(text[:i]), Of(text[i:])); got != Of(text) {
				t.Fatalf("the weights of %q and %q have the join %v, not %v", text[:i], text[i:], got, Of(text))
			}
		}
	}
}

func TestP6_3TextsInLetters(t *testing.T) {
	for _, text := range append(shortTexts(6), longTexts()...) {
		var list []api.Weight
		for _, letter := range text {
			list = append(list, Letter(letter))
		}
		if got := joinAll(t, list...); got != Of(text) {
			t.Errorf("the weights of the letters of %q have the join %v, not %v", text, got, Of(text))
		}
	}
}

func TestP6_3TextsRepeated(t *testing.T) {
	for _, text := range shortTexts(4) {
		for k := range 8 {
			got, err := Repeat(Of(text), k)
			check(t, fmt.Sprintf("the weight of %q, %d times,", text, k), got, err, Of(bytes.Repeat(text, k)))
		}
	}
}

// The copies of a text are also j copies followed by k copies, and k copies of j copies.
func TestP6_3CopiesInParts(t *testing.T) {
	counts := []int{0, 1, 2, 5, 1 << 28, 1 << 29}
	for _, w := range []api.Weight{Unit(), Letter('a'), Letter('\n'), Of([]byte("a\nb")), of(1, 0, 1, 1, p-1)} {
		for _, j := range counts {
			for _, k := range counts {
				got := joinAll(t, repeat(t, w, j), repeat(t, w, k))
				check(t, fmt.Sprintf("%v, %d times and %d times,", w, j, k), got, nil, repeat(t, w, j+k))
				got = repeat(t, repeat(t, w, j), k)
				check(t, fmt.Sprintf("%v, %d times, %d times,", w, j, k), got, nil, repeat(t, w, j*k))
			}
		}
	}
}

func repeat(t *testing.T, w api.Weight, k int) api.Weight {
	t.Helper()
	repeated, err := Repeat(w, k)
	if err != nil {
		t.Fatalf("Repeat(%v, %d) returns %v", w, k, err)
	}
	return repeated
}

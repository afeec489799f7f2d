package digest

import (
	"bytes"
	"math"
	"math/big"
	"math/rand"
	"slices"
	"strings"
	"testing"

	"evergreen/api"
)

const p = uint64(1<<61 - 1)

var bigP = new(big.Int).SetUint64(p)

func number(x uint64) *big.Int {
	return new(big.Int).SetUint64(x)
}

func residue(x *big.Int) uint64 {
	return new(big.Int).Mod(x, bigP).Uint64()
}

// power returns x to the power n modulo P; n may be greater than any int.
func power(x uint64, n *big.Int) uint64 {
	return new(big.Int).Exp(number(x), n, bigP).Uint64()
}

// modelOf adds up the terms of the definition, each with a power of its own.
func modelOf(text []byte) api.Digest {
	n := len(text)
	sum := new(big.Int)
	for i, letter := range text {
		term := number(power(1103515245, big.NewInt(int64(n-1-i))))
		sum.Add(sum, term.Mul(term, big.NewInt(int64(letter)+1)))
	}
	return api.Digest{Value: residue(sum), Scale: power(1103515245, big.NewInt(int64(n)))}
}

func modelJoin(a, b api.Digest) api.Digest {
	value := new(big.Int).Mul(number(a.Value), number(b.Scale))
	value.Add(value, number(b.Value))
	return api.Digest{Value: residue(value), Scale: residue(new(big.Int).Mul(number(a.Scale), number(b.Scale)))}
}

// modelRepeat uses the sum of the geometric series 1 + s + .. + s^(k-1), which is (s^k - 1) / (s - 1), or k if s is 1.
func modelRepeat(d api.Digest, k int) api.Digest {
	if k < 1 {
		return api.Digest{Value: 0, Scale: 1}
	}
	count := big.NewInt(int64(k))
	scale := power(d.Scale%p, count)
	series := count
	if d.Scale%p != 1 {
		series = new(big.Int).Sub(number(scale), big.NewInt(1))
		under := number((d.Scale%p + p - 1) % p)
		series.Mul(series, under.ModInverse(under, bigP))
	}
	return api.Digest{Value: residue(new(big.Int).Mul(number(d.Value), series)), Scale: scale}
}

// fields returns numbers around the multiples of P that fit, and some without a pattern, the same ones in every run.
func fields() []uint64 {
	list := []uint64{0, 1, 2, 98, Base, 1 << 60, p - 2, p - 1, p, p + 1, p + 2, 2 * p, 2*p + 1, 8 * p, 8*p + 1, 1 << 63, math.MaxUint64}
	source := rand.New(rand.NewSource(6))
	for range 5 {
		list = append(list, source.Uint64())
	}
	return list
}

// samples returns digests of texts, and digests of no text, among them ones that are not reduced.
func samples() []api.Digest {
	list := []api.Digest{Unit(), Letter(0), Letter('a'), Letter(255), Of([]byte("ab")), Of(make([]byte, 1000))}
	all := fields()
	for _, value := range all {
		for _, scale := range all {
			list = append(list, api.Digest{Value: value, Scale: scale})
		}
	}
	return list
}

// texts returns short texts, long ones, and ones of letters at the ends of the alphabet.
func texts() [][]byte {
	list := [][]byte{nil, {}, {0}, {255}, {0, 0}, {255, 255}, {0, 255}, []byte("ab"), []byte("ba"), []byte("abc\nabc\n")}
	list = append(list, bytes.Repeat([]byte{0}, 300), bytes.Repeat([]byte{255}, 300))
	source := rand.New(rand.NewSource(7))
	for n := range 70 {
		text := make([]byte, n)
		source.Read(text)
		list = append(list, text)
	}
	return list
}

func isReduced(d api.Digest) bool {
	return d.Value < p && d.Scale < p
}

func TestP5_1Examples(t *testing.T) {
	if Base != 1103515245 {
		t.Errorf("Base is %d", Base)
	}
	for _, c := range []struct {
		name      string
		got, want api.Digest
	}{
		{"Unit()", Unit(), api.Digest{Value: 0, Scale: 1}},
		{"Letter('a')", Letter('a'), api.Digest{Value: 98, Scale: 1103515245}},
		{"Letter(0)", Letter(0), api.Digest{Value: 1, Scale: 1103515245}},
		{"Letter(255)", Letter(255), api.Digest{Value: 256, Scale: 1103515245}},
		{`Of("ab")`, Of([]byte("ab")), api.Digest{Value: 108144494109, Scale: 1217745895947410025}},
	} {
		if c.got != c.want {
			t.Errorf("%s is %v, not %v", c.name, c.got, c.want)
		}
	}
}

func TestP5_1Letter(t *testing.T) {
	for b := range 256 {
		text := []byte{byte(b)}
		if got, want := Letter(byte(b)), modelOf(text); got != want {
			t.Errorf("Letter(%d) is %v, not %v", b, got, want)
		}
		if got, want := Of(text), modelOf(text); got != want {
			t.Errorf("Of(%v) is %v, not %v", text, got, want)
		}
	}
}

func TestP5_1Of(t *testing.T) {
	for _, text := range texts() {
		if got, want := Of(text), modelOf(text); got != want {
			t.Errorf("Of(%v) is %v, not %v", text, got, want)
		}
	}
}

func TestP5_1EmptyText(t *testing.T) {
	for _, text := range [][]byte{nil, {}} {
		if got := Of(text); got != (api.Digest{Value: 0, Scale: 1}) {
			t.Errorf("Of(%#v) is %v", text, got)
		}
	}
}

// A text may have more letters than are passed at once elsewhere.
func TestP5_1LongText(t *testing.T) {
	text := []byte(strings.Repeat("evergreen\n", 300000))
	got := Of(text)
	if want := modelRepeat(modelOf([]byte("evergreen\n")), 300000); got != want {
		t.Errorf("the digest of the long text is %v, not %v", got, want)
	}
}

func TestP5_1LeadingLettersZeroCount(t *testing.T) {
	seen := map[api.Digest]int{}
	for n := range 50 {
		d := Of(make([]byte, n))
		if other, ok := seen[d]; ok {
			t.Errorf("%d and %d letters 0 have the digest %v", other, n, d)
		}
		seen[d] = n
	}
}

func TestP5_1OfKeepsItsArgument(t *testing.T) {
	text := []byte("abcabc")
	Of(text[:3])
	if string(text) != "abcabc" {
		t.Errorf("the text is %q now", text)
	}
}

func TestP5_2Examples(t *testing.T) {
	ab := Of([]byte("ab"))
	if got := Join(Letter('a'), Letter('b')); got != ab {
		t.Errorf("Join(Letter('a'), Letter('b')) is %v, not %v", got, ab)
	}
	if got := Repeat(api.Digest{}, 0); got != (api.Digest{Value: 0, Scale: 1}) {
		t.Errorf("Repeat({0, 0}, 0) is %v", got)
	}
}

func TestP5_2JoinOfAnyDigests(t *testing.T) {
	for _, a := range samples() {
		for _, b := range samples() {
			if got, want := Join(a, b), modelJoin(a, b); got != want {
				t.Fatalf("Join(%v, %v) is %v, not %v", a, b, got, want)
			}
		}
	}
}

func TestP5_2JoinOfTexts(t *testing.T) {
	for _, a := range texts() {
		for _, b := range texts() {
			if got, want := Join(Of(a), Of(b)), Of(slices.Concat(a, b)); got != want {
				t.Fatalf("the digests of %v and %v have the join %v, not %v", a, b, got, want)
			}
		}
	}
}

func TestP5_2JoinWithUnitReduces(t *testing.T) {
	for _, d := range samples() {
		want := api.Digest{Value: d.Value % p, Scale: d.Scale % p}
		if got := Join(Unit(), d); got != want {
			t.Errorf("Join(Unit(), %v) is %v, not %v", d, got, want)
		}
		if got := Join(d, Unit()); got != want {
			t.Errorf("Join(%v, Unit()) is %v, not %v", d, got, want)
		}
	}
}

func TestP5_2RepeatFewTimes(t *testing.T) {
	for _, d := range samples() {
		want := Unit()
		for k := range 20 {
			if got := Repeat(d, k); got != want {
				t.Fatalf("Repeat(%v, %d) is %v, not %v", d, k, got, want)
			}
			want = modelJoin(want, d)
		}
	}
}

// The greatest counts end only if the steps grow with the digits of k.
func TestP5_2RepeatManyTimes(t *testing.T) {
	counts := []int{100, 1000, 1 << 20, 1<<20 - 1, 1 << 31, 1<<60 - 1, 1 << 60, int(p) - 1, int(p), int(p) + 1, 1 << 62, math.MaxInt - 1, math.MaxInt}
	for _, d := range samples() {
		for _, k := range counts {
			if got, want := Repeat(d, k), modelRepeat(d, k); got != want {
				t.Fatalf("Repeat(%v, %d) is %v, not %v", d, k, got, want)
			}
		}
	}
}

func TestP5_2RepeatLessThanOnce(t *testing.T) {
	for _, d := range samples() {
		for _, k := range []int{0, -1, -2, -100, math.MinInt + 1, math.MinInt} {
			if got := Repeat(d, k); got != (api.Digest{Value: 0, Scale: 1}) {
				t.Errorf("Repeat(%v, %d) is %v", d, k, got)
			}
		}
	}
}

func TestP5_2RepeatOfTexts(t *testing.T) {
	for _, text := range texts() {
		for k := range 12 {
			if got, want := Repeat(Of(text), k), Of(bytes.Repeat(text, k)); got != want {
				t.Errorf("the digest of %v, %d times, is %v, not %v", text, k, got, want)
			}
		}
	}
}

func TestP5_3Examples(t *testing.T) {
	ab := Of([]byte("ab"))
	if got, err := Rest(ab, Letter('a')); got != (api.Digest{Value: 99, Scale: 1103515245}) || err != nil {
		t.Errorf("Rest of ab and a is %v, %v", got, err)
	}
	if got, err := Front(ab, Letter('b')); got != Letter('a') || err != nil {
		t.Errorf("Front of ab and b is %v, %v", got, err)
	}
	for _, prefix := range samples() {
		if got, err := Rest(api.Digest{Value: 5}, prefix); got != (api.Digest{}) || err != api.ErrRange {
			t.Errorf("Rest({5, 0}, %v) is %v, %v", prefix, got, err)
		}
	}
}

func TestP5_3RestAndFrontOfTexts(t *testing.T) {
	for _, a := range texts() {
		for _, b := range texts() {
			whole := Of(slices.Concat(a, b))
			if got, err := Rest(whole, Of(a)); got != Of(b) || err != nil {
				t.Fatalf("what follows %v before %v has the digest %v, %v", a, b, got, err)
			}
			if got, err := Front(whole, Of(b)); got != Of(a) || err != nil {
				t.Fatalf("what precedes %v after %v has the digest %v, %v", b, a, got, err)
			}
		}
	}
}

// With the Scales not 0, the result is the only solution: it is enough that it is one.
func TestP5_3RestAndFrontOfAnyDigests(t *testing.T) {
	for _, whole := range samples() {
		for _, part := range samples() {
			none := whole.Scale%p == 0 || part.Scale%p == 0
			want := api.Digest{Value: whole.Value % p, Scale: whole.Scale % p}
			rest, err := Rest(whole, part)
			if !isSolution(rest, err, none, modelJoin(part, rest), want) {
				t.Fatalf("Rest(%v, %v) is %v, %v", whole, part, rest, err)
			}
			front, err := Front(whole, part)
			if !isSolution(front, err, none, modelJoin(front, part), want) {
				t.Fatalf("Front(%v, %v) is %v, %v", whole, part, front, err)
			}
		}
	}
}

func isSolution(d api.Digest, err error, none bool, joined, whole api.Digest) bool {
	if none {
		return d == (api.Digest{}) && err == api.ErrRange
	}
	return err == nil && isReduced(d) && joined == whole
}

// A prefix need not be shorter than the whole: the rest is then the digest of no text.
func TestP5_3PartLongerThanWhole(t *testing.T) {
	rest, err := Rest(Letter('a'), Of([]byte("ab")))
	if err != nil || Join(Of([]byte("ab")), rest) != Letter('a') {
		t.Errorf("Rest of a and ab is %v, %v", rest, err)
	}
	front, err := Front(Letter('b'), Of([]byte("ab")))
	if err != nil || Join(front, Of([]byte("ab"))) != Letter('b') {
		t.Errorf("Front of b and ab is %v, %v", front, err)
	}
}

// modelPut writes the digits of the number Value * 2^64 + Scale.
func modelPut(d api.Digest) []byte {
	both := number(d.Value % p)
	both.Lsh(both, 64)
	both.Add(both, number(d.Scale%p))
	return both.FillBytes(make([]byte, 16))
}

func TestP5_4Examples(t *testing.T) {
	if got := Put(Unit()); !bytes.Equal(got, append(make([]byte, 15), 1)) {
		t.Errorf("Put(Unit()) is %v", got)
	}
	d := api.Digest{Value: 0x0102030405060708, Scale: 0x1112131415161718}
	want := []byte{1, 2, 3, 4, 5, 6, 7, 8, 0x11, 0x12, 0x13, 0x14, 0x15, 0x16, 0x17, 0x18}
	if got := Put(d); !bytes.Equal(got, want) {
		t.Errorf("Put(%v) is %v, not %v", d, got, want)
	}
	if got, err := Take(want); got != d || err != nil {
		t.Errorf("Take(%v) is %v, %v", want, got, err)
	}
}

func TestP5_4PutReduces(t *testing.T) {
	for _, d := range samples() {
		if got, want := Put(d), modelPut(d); !bytes.Equal(got, want) {
			t.Errorf("Put(%v) is %v, not %v", d, got, want)
		}
	}
}

func TestP5_4TakeWhatPutWrites(t *testing.T) {
	for _, d := range samples() {
		want := api.Digest{Value: d.Value % p, Scale: d.Scale % p}
		if got, err := Take(Put(d)); got != want || err != nil {
			t.Errorf("Take(Put(%v)) is %v, %v", d, got, err)
		}
	}
}

func TestP5_4TakeRefusesGreatNumbers(t *testing.T) {
	for _, value := range fields() {
		for _, scale := range fields() {
			b := new(big.Int).Add(new(big.Int).Lsh(number(value), 64), number(scale)).FillBytes(make([]byte, 16))
			got, err := Take(b)
			if value < p && scale < p {
				if got != (api.Digest{Value: value, Scale: scale}) || err != nil {
					t.Errorf("Take(%v) is %v, %v", b, got, err)
				}
			} else if got != (api.Digest{}) || err != api.ErrForm {
				t.Errorf("Take(%v) is %v, %v", b, got, err)
			}
		}
	}
}

func TestP5_4TakeRefusesOtherSizes(t *testing.T) {
	if got, err := Take(nil); got != (api.Digest{}) || err != api.ErrForm {
		t.Errorf("Take(nil) is %v, %v", got, err)
	}
	for n := range 100 {
		if n == 16 {
			continue
		}
		for _, letter := range []byte{0, 1, 255} {
			b := bytes.Repeat([]byte{letter}, n)
			if got, err := Take(b); got != (api.Digest{}) || err != api.ErrForm {
				t.Errorf("Take of %d bytes %d is %v, %v", n, letter, got, err)
			}
		}
	}
}

func TestP5_4KeepsItsArgumentAndReturnsNewMemory(t *testing.T) {
	b := Put(Letter('a'))
	c := slices.Clone(b)
	if _, err := Take(b); err != nil || !bytes.Equal(b, c) {
		t.Errorf("Take returns %v and leaves %v, not %v", err, b, c)
	}
	other := Put(Letter('a'))
	other[0] = 1
	if !bytes.Equal(b, c) {
		t.Errorf("two results of Put share memory")
	}
}

package varint

import (
	"bytes"
	"math"
	"math/big"
	"math/rand"
	"slices"
	"strings"
	"testing"

	"evergreen/api"
)

func wide(n uint64) *big.Int { return new(big.Int).SetUint64(n) }

// modelPut divides by 128 until nothing is left: each remainder is a byte, the lowest first.
func modelPut(n *big.Int) []byte {
	rest, group := new(big.Int).DivMod(n, big.NewInt(128), new(big.Int))
	if rest.Sign() == 0 {
		return []byte{byte(group.Int64())}
	}
	return append([]byte{byte(group.Int64()) + 128}, modelPut(rest)...)
}

// modelTake adds up the groups, as many as there are, as an integer of any size.
func modelTake(b []byte) (uint64, int, error) {
	used := 1 + slices.IndexFunc(b, func(x byte) bool { return x < 128 })
	if used == 0 {
		return 0, 0, api.ErrForm
	}
	sum := new(big.Int)
	for _, x := range slices.Backward(b[:used]) {
		sum.Add(sum.Mul(sum, big.NewInt(128)), big.NewInt(int64(x%128)))
	}
	isShortest := used == 1 || b[used-1] != 0
	if !isShortest || !sum.IsUint64() {
		return 0, 0, api.ErrForm
	}
	return sum.Uint64(), used, nil
}

// modelFold is 2n or -2n - 1, computed with integers that do not overflow.
func modelFold(n int) *big.Int {
	twice := new(big.Int).Mul(big.NewInt(int64(n)), big.NewInt(2))
	if n >= 0 {
		return twice
	}
	return twice.Sub(twice.Neg(twice), big.NewInt(1))
}

// modelUnfold tries both integers whose folded number has this half.
func modelUnfold(folded uint64) int {
	half := int(folded / 2)
	if modelFold(half).Cmp(wide(folded)) == 0 {
		return half
	}
	return -half - 1
}

func modelTakeInt(b []byte) (int, int, error) {
	folded, used, err := modelTake(b)
	if err != nil {
		return 0, 0, err
	}
	return modelUnfold(folded), used, nil
}

func modelTakeBytes(b []byte, most int) ([]byte, int, error) {
	count, used, err := modelTake(b)
	if err != nil {
		return nil, 0, err
	}
	if wide(count).Cmp(big.NewInt(int64(max(most, 0)))) > 0 {
		return nil, 0, api.ErrLarge
	}
	end := wide(count)
	end.Add(end, big.NewInt(int64(used)))
	if end.Cmp(big.NewInt(int64(len(b)))) > 0 {
		return nil, 0, api.ErrForm
	}
	return b[used:end.Int64()], int(end.Int64()), nil
}

// numbers contains those at which the size changes, the ends, and some without a pattern, the same ones in every run.
func numbers() []uint64 {
	var list []uint64
	for n := range uint64(1000) {
		list = append(list, n, math.MaxUint64-n)
	}
	for k := range 64 {
		power := uint64(1) << k
		list = append(list, power-1, power, power+1)
	}
	source := rand.New(rand.NewSource(7))
	for range 2000 {
		list = append(list, source.Uint64()>>source.Intn(64))
	}
	return list
}

// ints contains the numbers as signed ones, and the opposite ones.
func ints() []int {
	list := []int{math.MinInt, math.MinInt + 1, math.MaxInt, math.MaxInt - 1}
	for _, n := range numbers() {
		list = append(list, int(n), -int(n))
	}
	return list
}

// byteStrings returns ones of many lengths, among them those at which the size of the length changes.
func byteStrings() [][]byte {
	list := [][]byte{nil, {}, {0}, {127}, {128}, {255}, []byte("hi"), {0x80, 0x80, 0}}
	source := rand.New(rand.NewSource(8))
	for _, n := range []int{1, 2, 3, 10, 126, 127, 128, 129, 255, 256, 1000, 16383, 16384, 16385, api.MaxPlain} {
		b := make([]byte, n)
		source.Read(b)
		list = append(list, b, bytes.Repeat([]byte{0}, n), bytes.Repeat([]byte{255}, n))
	}
	return list
}

// tails are what may follow an encoding.
func tails() [][]byte {
	return [][]byte{nil, {0}, {1}, {127}, {128}, {255}, {5, 6, 7}, {0x80, 0x80, 0}, bytes.Repeat([]byte{255}, 30)}
}

// shortInputs returns all byte strings of at most two bytes, and longer ones of bytes at which a group or an encoding ends or does not.
func shortInputs() [][]byte {
	list := [][]byte{nil, {}}
	for x := range 256 {
		list = append(list, []byte{byte(x)})
		for y := range 256 {
			list = append(list, []byte{byte(x), byte(y)})
		}
	}
	level := [][]byte{{}}
	for n := range 6 {
		var next [][]byte
		for _, b := range level {
			for _, x := range []byte{0, 1, 2, 127, 128, 129, 255} {
				next = append(next, append(slices.Clone(b), x))
			}
		}
		if n >= 2 {
			list = append(list, next...)
		}
		level = next
	}
	return list
}

// longInputs returns byte strings of 7 to 13 bytes, of which the last three take many values: the tenth byte is one of them.
func longInputs() [][]byte {
	var list [][]byte
	ends := []byte{0, 1, 2, 3, 4, 63, 64, 126, 127, 128, 129, 130, 255}
	for _, group := range []byte{128, 129, 170, 255} {
		for n := 4; n <= 10; n++ {
			for _, x := range ends {
				for _, y := range ends {
					for _, z := range ends {
						list = append(list, append(bytes.Repeat([]byte{group}, n), x, y, z))
					}
				}
			}
		}
	}
	source := rand.New(rand.NewSource(9))
	for n := range 2000 {
		b := make([]byte, n%14)
		source.Read(b)
		for i := range max(len(b)-1, 0) {
			b[i] |= 128
		}
		list = append(list, b)
	}
	return list
}

func inputs() [][]byte {
	return slices.Concat(shortInputs(), longInputs())
}

// times returns k bytes x, and then the last ones.
func times(x byte, k int, last ...byte) []byte {
	return append(bytes.Repeat([]byte{x}, k), last...)
}

func TestP7_1PutExamples(t *testing.T) {
	for _, c := range []struct {
		n    uint64
		want []byte
	}{
		{0, []byte{0}},
		{1, []byte{1}},
		{127, []byte{0x7f}},
		{128, []byte{0x80, 1}},
		{129, []byte{0x81, 1}},
		{300, []byte{0xac, 2}},
		{16383, []byte{0xff, 0x7f}},
		{16384, []byte{0x80, 0x80, 1}},
		{1<<63 - 1, times(0xff, 8, 0x7f)},
		{1 << 63, times(0x80, 9, 1)},
		{math.MaxUint64, times(0xff, 9, 1)},
	} {
		if got := Put(c.n); !bytes.Equal(got, c.want) {
			t.Errorf("Put(%d) is %x, not %x", c.n, got, c.want)
		}
	}
}

func TestP7_1Put(t *testing.T) {
	for _, n := range numbers() {
		if got, want := Put(n), modelPut(wide(n)); !bytes.Equal(got, want) {
			t.Errorf("Put(%d) is %x, not %x", n, got, want)
		}
	}
}

func TestP7_1Size(t *testing.T) {
	for _, n := range numbers() {
		if got, want := Size(n), len(modelPut(wide(n))); got != want {
			t.Errorf("Size(%d) is %d, not %d", n, got, want)
		}
	}
}

// Each size begins at a power of 128.
func TestP7_1SizeAtItsLimits(t *testing.T) {
	for size := 1; size <= 9; size++ {
		next := uint64(1) << (7 * size)
		if Size(next-1) != size || Size(next) != size+1 {
			t.Errorf("Size(%d) is %d, Size(%d) is %d", next-1, Size(next-1), next, Size(next))
		}
	}
	if Size(0) != 1 || Size(math.MaxUint64) != 10 {
		t.Errorf("Size(0) is %d, Size(2^64 - 1) is %d", Size(0), Size(math.MaxUint64))
	}
}

func TestP7_1TakeExamples(t *testing.T) {
	for _, c := range []struct {
		b    []byte
		n    uint64
		used int
		err  error
	}{
		{[]byte{0x80, 1, 5}, 128, 2, nil},
		{[]byte{0}, 0, 1, nil},
		{[]byte{0, 0}, 0, 1, nil},
		{[]byte{0x7f, 0x80}, 127, 1, nil},
		{times(0xff, 9, 1), math.MaxUint64, 10, nil},
		{times(0x80, 9, 1, 0x80), 1 << 63, 10, nil},
		{times(0xff, 8, 0x7f), 1<<63 - 1, 9, nil},
		{nil, 0, 0, api.ErrForm},
		{[]byte{}, 0, 0, api.ErrForm},
		{[]byte{0x80}, 0, 0, api.ErrForm},
		{[]byte{0x80, 0}, 0, 0, api.ErrForm},
		{[]byte{0xff, 0, 1}, 0, 0, api.ErrForm},
		{[]byte{0x81, 0x80, 0}, 0, 0, api.ErrForm},
		{times(0xff, 9), 0, 0, api.ErrForm},
		{times(0xff, 9, 0), 0, 0, api.ErrForm},
		{times(0x80, 9, 0), 0, 0, api.ErrForm},
		{times(0x80, 9, 2), 0, 0, api.ErrForm},
		{times(0xff, 9, 3), 0, 0, api.ErrForm},
		{times(0x80, 9, 0x7f), 0, 0, api.ErrForm},
		{times(0x80, 9, 0x80), 0, 0, api.ErrForm},
		{times(0x80, 9, 0x81, 1), 0, 0, api.ErrForm},
		{times(0x80, 10, 1), 0, 0, api.ErrForm},
		{times(0x80, 10, 0), 0, 0, api.ErrForm},
		{times(0xff, 1000, 1), 0, 0, api.ErrForm},
		{times(0x80, 1000), 0, 0, api.ErrForm},
	} {
		if n, used, err := Take(c.b); n != c.n || used != c.used || err != c.err {
			t.Errorf("Take(%x) is %d, %d, %v", c.b, n, used, err)
		}
	}
}

func TestP7_1Take(t *testing.T) {
	for _, b := range inputs() {
		n, used, err := Take(b)
		wantN, wantUsed, wantErr := modelTake(b)
		if n != wantN || used != wantUsed || err != wantErr {
			t.Errorf("Take(%x) is %d, %d, %v, not %d, %d, %v", b, n, used, err, wantN, wantUsed, wantErr)
		}
	}
}

// All proper prefixes of an encoding end before its last byte.
func TestP7_1TakeOfPrefixes(t *testing.T) {
	for _, n := range numbers() {
		b := Put(n)
		for size := range len(b) {
			if got, used, err := Take(b[:size]); got != 0 || used != 0 || err != api.ErrForm {
				t.Errorf("Take(%x) is %d, %d, %v", b[:size], got, used, err)
			}
			if got, used, err := TakeInt(b[:size]); got != 0 || used != 0 || err != api.ErrForm {
				t.Errorf("TakeInt(%x) is %d, %d, %v", b[:size], got, used, err)
			}
		}
	}
}

// Bytes beyond the slice's length don't belong to it, even if there is memory.
func TestP7_1TakeReadsNothingBeyondTheSlice(t *testing.T) {
	b := []byte{0x80, 1, 'a', 'b'}
	if n, used, err := Take(b[:1]); n != 0 || used != 0 || err != api.ErrForm {
		t.Errorf("Take(80) is %d, %d, %v", n, used, err)
	}
	c := []byte{2, 'h', 'i'}
	if got, used, err := TakeBytes(c[:2], 9); got != nil || used != 0 || err != api.ErrForm {
		t.Errorf("TakeBytes(02 68, 9) is %q, %d, %v", got, used, err)
	}
}

func TestP7_1PutIntExamples(t *testing.T) {
	for _, c := range []struct {
		n    int
		want []byte
	}{
		{0, []byte{0}},
		{-1, []byte{1}},
		{1, []byte{2}},
		{-2, []byte{3}},
		{63, []byte{0x7e}},
		{-64, []byte{0x7f}},
		{64, []byte{0x80, 1}},
		{-65, []byte{0x81, 1}},
		{math.MaxInt, append([]byte{0xfe}, times(0xff, 8, 1)...)},
		{math.MinInt, times(0xff, 9, 1)},
	} {
		if got := PutInt(c.n); !bytes.Equal(got, c.want) {
			t.Errorf("PutInt(%d) is %x, not %x", c.n, got, c.want)
		}
	}
}

func TestP7_1PutInt(t *testing.T) {
	for _, n := range ints() {
		if got, want := PutInt(n), modelPut(modelFold(n)); !bytes.Equal(got, want) {
			t.Errorf("PutInt(%d) is %x, not %x", n, got, want)
		}
	}
}

func TestP7_1TakeInt(t *testing.T) {
	for _, b := range inputs() {
		n, used, err := TakeInt(b)
		wantN, wantUsed, wantErr := modelTakeInt(b)
		if n != wantN || used != wantUsed || err != wantErr {
			t.Errorf("TakeInt(%x) is %d, %d, %v, not %d, %d, %v", b, n, used, err, wantN, wantUsed, wantErr)
		}
	}
}

func TestP7_1PutBytesExamples(t *testing.T) {
	for _, c := range []struct{ b, want []byte }{
		{nil, []byte{0}},
		{[]byte{}, []byte{0}},
		{[]byte{0}, []byte{1, 0}},
		{[]byte("hi"), []byte{2, 'h', 'i'}},
		{times(200, 127), append([]byte{0x7f}, times(200, 127)...)},
		{times(200, 128), append([]byte{0x80, 1}, times(200, 128)...)},
	} {
		if got := PutBytes(c.b); !bytes.Equal(got, c.want) {
			t.Errorf("PutBytes(%x) is %x, not %x", c.b, got, c.want)
		}
	}
}

func TestP7_1PutBytes(t *testing.T) {
	for _, b := range byteStrings() {
		want := append(modelPut(big.NewInt(int64(len(b)))), b...)
		if got := PutBytes(b); !bytes.Equal(got, want) {
			t.Errorf("PutBytes of %d bytes is %d bytes, or has other ones, not %d", len(b), len(got), len(want))
		}
	}
}

func TestP7_1TakeBytesExamples(t *testing.T) {
	for _, c := range []struct {
		b    []byte
		most int
		want string
		used int
		err  error
	}{
		{[]byte{2, 'h', 'i', 0}, 2, "hi", 3, nil},
		{[]byte{2, 'h', 'i'}, math.MaxInt, "hi", 3, nil},
		{[]byte{0}, 0, "", 1, nil},
		{[]byte{0, 9}, 5, "", 1, nil},
		{[]byte{0}, -1, "", 1, nil},
		{[]byte{0}, math.MinInt, "", 1, nil},
		{append([]byte{0x80, 1}, times('a', 128)...), 128, strings.Repeat("a", 128), 130, nil},
		{[]byte{2, 'h'}, 1, "", 0, api.ErrLarge},
		{[]byte{2, 'h', 'i'}, 1, "", 0, api.ErrLarge},
		{[]byte{1, 'h'}, 0, "", 0, api.ErrLarge},
		{[]byte{1, 'h'}, -1, "", 0, api.ErrLarge},
		{[]byte{1, 'h'}, math.MinInt, "", 0, api.ErrLarge},
		{times(0xff, 9, 1), math.MaxInt, "", 0, api.ErrLarge},
		{times(0x80, 9, 1), math.MaxInt, "", 0, api.ErrLarge},
		{times(0xff, 9, 1), -1, "", 0, api.ErrLarge},
		{times(0xff, 8, 0x7f), math.MaxInt - 1, "", 0, api.ErrLarge},
		{times(0xff, 8, 0x7f), math.MaxInt, "", 0, api.ErrForm},
		{[]byte{2, 'h'}, 2, "", 0, api.ErrForm},
		{[]byte{2}, 2, "", 0, api.ErrForm},
		{[]byte{1}, 1, "", 0, api.ErrForm},
		{nil, 5, "", 0, api.ErrForm},
		{[]byte{}, -5, "", 0, api.ErrForm},
		{[]byte{0x80}, 0, "", 0, api.ErrForm},
		{[]byte{0x80, 0}, 5, "", 0, api.ErrForm},
		{[]byte{0x82, 0, 'h', 'i'}, 5, "", 0, api.ErrForm},
		{[]byte{0x82, 0, 'h', 'i'}, 0, "", 0, api.ErrForm},
		{times(0x80, 9, 2), 5, "", 0, api.ErrForm},
	} {
		got, used, err := TakeBytes(c.b, c.most)
		if string(got) != c.want || used != c.used || err != c.err || err != nil && got != nil {
			t.Errorf("TakeBytes(%x, %d) is %q, %d, %v", c.b, c.most, got, used, err)
		}
	}
}

func TestP7_1TakeBytes(t *testing.T) {
	mosts := []int{math.MinInt, -1, 0, 1, 2, 3, 4, 127, 128, 1 << 20, math.MaxInt - 1, math.MaxInt}
	for _, b := range inputs() {
		for _, most := range mosts {
			checkTakeBytes(t, b, most)
		}
	}
}

// The length, the limit, and the bytes that follow are each one too few, right, or one too many.
func TestP7_1TakeBytesAtItsLimits(t *testing.T) {
	for _, n := range []int{1, 2, 127, 128, 129, 16383, 16384, api.MaxPlain} {
		b := append(modelPut(big.NewInt(int64(n))), times('x', n+1)...)
		for _, end := range []int{len(b) - 2, len(b) - 1, len(b)} {
			for _, most := range []int{n - 1, n, n + 1} {
				checkTakeBytes(t, b[:end], most)
			}
		}
	}
}

func checkTakeBytes(t *testing.T, b []byte, most int) {
	t.Helper()
	got, used, err := TakeBytes(b, most)
	want, wantUsed, wantErr := modelTakeBytes(b, most)
	if !bytes.Equal(got, want) || used != wantUsed || err != wantErr || err != nil && got != nil {
		t.Errorf("TakeBytes(%x, %d) is %x, %d, %v, not %x, %d, %v", b, most, got, used, err, want, wantUsed, wantErr)
	}
}

func TestP7_1ResultsAreNewMemory(t *testing.T) {
	b := []byte{2, 'h', 'i', 'x', 'y'}
	got, _, _ := TakeBytes(b, 2)
	// Neither what is written into the result nor what is appended to it reaches the argument.
	got[0] = 'H'
	_ = append(got, "XY"...)
	if string(b) != "\x02hixy" {
		t.Errorf("the argument of TakeBytes is %q now", b)
	}
	text := []byte("hixy")
	put := PutBytes(text[:2])
	put[1] = 'H'
	_ = append(put, "XY"...)
	if string(text) != "hixy" {
		t.Errorf("the argument of PutBytes is %q now", text)
	}
	for _, n := range []uint64{0, 5, 300} {
		one, other := Put(n), Put(n)
		one[0]++
		if bytes.Equal(one, other) {
			t.Errorf("two results of Put(%d) share memory", n)
		}
	}
	for _, n := range []int{0, -5, 300} {
		one, other := PutInt(n), PutInt(n)
		one[0]++
		if bytes.Equal(one, other) {
			t.Errorf("two results of PutInt(%d) share memory", n)
		}
	}
}

func TestP7_1ArgumentsAreKept(t *testing.T) {
	for _, b := range [][]byte{{0x80, 1, 'a'}, {2, 'h', 'i', 0}, {0x80, 0}, times(0xff, 9, 1)} {
		kept := bytes.Clone(b)
		Take(b)
		TakeInt(b)
		TakeBytes(b, 2)
		PutBytes(b[:1])
		if !bytes.Equal(b, kept) {
			t.Errorf("%x has become %x", kept, b)
		}
	}
}

func TestP7_2TakeReadsWhatPutReturns(t *testing.T) {
	for _, n := range numbers() {
		b := Put(n)
		for _, tail := range tails() {
			if got, used, err := Take(slices.Concat(b, tail)); got != n || used != len(b) || err != nil {
				t.Errorf("Take(Put(%d), %x) is %d, %d, %v", n, tail, got, used, err)
			}
		}
	}
}

func TestP7_2TakeIntReadsWhatPutIntReturns(t *testing.T) {
	for _, n := range ints() {
		b := PutInt(n)
		for _, tail := range tails() {
			if got, used, err := TakeInt(slices.Concat(b, tail)); got != n || used != len(b) || err != nil {
				t.Errorf("TakeInt(PutInt(%d), %x) is %d, %d, %v", n, tail, got, used, err)
			}
		}
	}
}

func TestP7_2TakeBytesReadsWhatPutBytesReturns(t *testing.T) {
	for _, text := range byteStrings() {
		b := PutBytes(text)
		for _, tail := range tails() {
			for _, most := range []int{len(text), len(text) + 1, math.MaxInt} {
				got, used, err := TakeBytes(slices.Concat(b, tail), most)
				if !bytes.Equal(got, text) || used != len(b) || err != nil {
					t.Errorf("TakeBytes of %d bytes, %x and %d is %d bytes, %d, %v", len(text), tail, most, len(got), used, err)
				}
			}
		}
	}
}

func TestP7_2AcceptedInputsAreEncodings(t *testing.T) {
	for _, b := range inputs() {
		if n, used, err := Take(b); err == nil && !bytes.Equal(Put(n), b[:used]) {
			t.Errorf("Take(%x) is %d, whose encoding is %x", b, n, Put(n))
		}
		if n, used, err := TakeInt(b); err == nil && !bytes.Equal(PutInt(n), b[:used]) {
			t.Errorf("TakeInt(%x) is %d, whose encoding is %x", b, n, PutInt(n))
		}
		if text, used, err := TakeBytes(b, math.MaxInt); err == nil && !bytes.Equal(PutBytes(text), b[:used]) {
			t.Errorf("TakeBytes(%x) is %x, whose encoding is %x", b, text, PutBytes(text))
		}
	}
}

// Encodings that follow one another are read back one by one.
func TestP7_2EncodingsInARow(t *testing.T) {
	var row []byte
	for _, n := range numbers() {
		row = append(row, Put(n)...)
		row = append(row, PutInt(-int(n>>1))...)
		row = append(row, PutBytes(modelPut(wide(n)))...)
	}
	for _, n := range numbers() {
		got, used, err := Take(row)
		row = row[used:]
		signed, usedInt, errInt := TakeInt(row)
		row = row[usedInt:]
		text, usedBytes, errBytes := TakeBytes(row, 10)
		row = row[usedBytes:]
		if err != nil || errInt != nil || errBytes != nil {
			t.Fatalf("at %d: %v, %v, %v", n, err, errInt, errBytes)
		}
		if got != n || signed != -int(n>>1) || !bytes.Equal(text, modelPut(wide(n))) {
			t.Fatalf("at %d: %d, %d, %x", n, got, signed, text)
		}
	}
	if len(row) != 0 {
		t.Errorf("%d bytes are left", len(row))
	}
}

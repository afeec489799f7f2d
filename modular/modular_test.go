package modular

import (
	"errors"
	"math"
	"math/big"
	"math/rand"
	"slices"
	"testing"

	"evergreen/api"
)

const p = uint64(1<<61 - 1)

var bigP = new(big.Int).SetUint64(p)

func number(x uint64) *big.Int {
	return new(big.Int).SetUint64(x)
}

// residue is the reference for everything that follows: the remainder of a whole number, computed without a bound on its size.
func residue(x *big.Int) uint64 {
	return new(big.Int).Mod(x, bigP).Uint64()
}

// borders returns numbers around 0, around the multiples of P that fit, around the powers of 2 and around the greatest uint64.
func borders() []uint64 {
	var list []uint64
	for k := range uint64(9) {
		for d := range uint64(7) {
			list = append(list, k*p+d-3)
		}
	}
	for shift := range 64 {
		list = append(list, 1<<shift-1, 1<<shift, 1<<shift+1)
	}
	for d := range uint64(8) {
		list = append(list, math.MaxUint64-d)
	}
	list = append(list, 1234567890123456789, 987654321987654321)
	slices.Sort(list)
	return slices.Compact(list)
}

// samples returns the borders, and as many numbers without a pattern, the same ones in every run.
func samples() []uint64 {
	list := borders()
	source := rand.New(rand.NewSource(4))
	for range len(list) {
		list = append(list, source.Uint64()>>source.Intn(64))
	}
	return list
}

// fewer returns some of the samples, for tests that try all triples.
func fewer() []uint64 {
	list := []uint64{0, 1, 2, 3, 17, p - 2, p - 1, p, p + 1, 2 * p, 2*p + 1, 8 * p, math.MaxUint64 - 1, math.MaxUint64, 1 << 60, 1 << 61, 1 << 63}
	source := rand.New(rand.NewSource(5))
	for range 20 {
		list = append(list, source.Uint64())
	}
	return list
}

func TestP4_1Examples(t *testing.T) {
	for _, c := range []struct {
		name      string
		got, want uint64
	}{
		{"Reduce(2^61 - 1)", Reduce(1<<61 - 1), 0},
		{"Reduce(2^64 - 1)", Reduce(math.MaxUint64), 7},
		{"Add(2^61 - 2, 5)", Add(1<<61-2, 5), 4},
		{"Neg(0)", Neg(0), 0},
		{"Neg(1)", Neg(1), 1<<61 - 2},
		{"Mul(2^60, 4)", Mul(1<<60, 4), 2},
		{"Pow(2, 61)", Pow(2, 61), 1},
		{"Pow(0, 0)", Pow(0, 0), 1},
		{"Horner(10, 1, 2, 3)", Horner(10, 1, 2, 3), 123},
		{"Mix(0, 0, 0)", Mix(0, 0, 0), 0},
		{"Mix(2, 0, 0)", Mix(2, 0, 0), 131072},
	} {
		if c.got != c.want {
			t.Errorf("%s is %d, not %d", c.name, c.got, c.want)
		}
	}
	if b, err := Inverse(2); b != 1<<60 || err != nil {
		t.Errorf("Inverse(2) is %d, %v", b, err)
	}
	if b, err := Inverse(1<<61 - 1); b != 0 || err != api.ErrRange {
		t.Errorf("Inverse(2^61 - 1) is %d, %v", b, err)
	}
}

func TestP4_1OfOneNumber(t *testing.T) {
	for _, a := range samples() {
		if got, want := Reduce(a), residue(number(a)); got != want {
			t.Errorf("Reduce(%d) is %d, not %d", a, got, want)
		}
		if got, want := Neg(a), residue(new(big.Int).Neg(number(a))); got != want {
			t.Errorf("Neg(%d) is %d, not %d", a, got, want)
		}
	}
}

func TestP4_1OfTwoNumbers(t *testing.T) {
	for _, a := range samples() {
		for _, b := range samples() {
			x, y := number(a), number(b)
			if got, want := Add(a, b), residue(new(big.Int).Add(x, y)); got != want {
				t.Errorf("Add(%d, %d) is %d, not %d", a, b, got, want)
			}
			if got, want := Sub(a, b), residue(new(big.Int).Sub(x, y)); got != want {
				t.Errorf("Sub(%d, %d) is %d, not %d", a, b, got, want)
			}
			if got, want := Mul(a, b), residue(new(big.Int).Mul(x, y)); got != want {
				t.Errorf("Mul(%d, %d) is %d, not %d", a, b, got, want)
			}
		}
	}
}

func TestP4_1PowDoesNotReduceTheExponent(t *testing.T) {
	for _, a := range fewer() {
		for _, n := range borders() {
			want := residue(new(big.Int).Exp(number(a), number(n), bigP))
			if got := Pow(a, n); got != want {
				t.Errorf("Pow(%d, %d) is %d, not %d", a, n, got, want)
			}
		}
	}
}

func TestP4_1PowOfSmallNumbers(t *testing.T) {
	for a := range uint64(20) {
		product := uint64(1)
		for n := range uint64(14) {
			for _, same := range []uint64{a, a + p, a + 7*p} {
				if got := Pow(same, n); got != product {
					t.Errorf("Pow(%d, %d) is %d, not %d", same, n, got, product)
				}
			}
			product *= a
		}
	}
}

func TestP4_1PowToTheZeroIsOne(t *testing.T) {
	for _, a := range samples() {
		if got := Pow(a, 0); got != 1 {
			t.Errorf("Pow(%d, 0) is %d, not 1", a, got)
		}
	}
}

func TestP4_1Inverse(t *testing.T) {
	for _, a := range samples() {
		b, err := Inverse(a)
		if a%p == 0 {
			if b != 0 || err != api.ErrRange {
				t.Errorf("Inverse(%d) is %d, %v, not 0, %v", a, b, err, api.ErrRange)
			}
			continue
		}
		want := new(big.Int).ModInverse(number(a), bigP).Uint64()
		if b != want || err != nil {
			t.Errorf("Inverse(%d) is %d, %v, not %d", a, b, err, want)
		}
		if Mul(a, b) != 1 {
			t.Errorf("%d times its inverse is %d", a, Mul(a, b))
		}
	}
}

func TestP4_1InverseOfMultiplesOfP(t *testing.T) {
	for k := range uint64(9) {
		b, err := Inverse(k * p)
		if b != 0 || !errors.Is(err, api.ErrRange) {
			t.Errorf("Inverse(%d P) is %d, %v", k, b, err)
		}
		if _, isErrno := err.(api.Errno); !isErrno {
			t.Errorf("the error of Inverse(%d P) is a %T", k, err)
		}
	}
}

// polynomial adds up the terms as the chapter writes them, each with its own power.
func polynomial(x uint64, list []uint64) uint64 {
	sum := new(big.Int)
	for i, c := range list {
		power := new(big.Int).Exp(number(x), big.NewInt(int64(len(list)-1-i)), bigP)
		sum.Add(sum, power.Mul(power, number(c)))
	}
	return residue(sum)
}

func TestP4_1Horner(t *testing.T) {
	source := rand.New(rand.NewSource(6))
	numbers := samples()
	for _, x := range numbers {
		for n := range 9 {
			list := make([]uint64, n)
			for i := range list {
				list[i] = numbers[source.Intn(len(numbers))]
			}
			if got, want := Horner(x, list...), polynomial(x, list); got != want {
				t.Errorf("Horner(%d, %d...) is %d, not %d", x, list, got, want)
			}
		}
	}
}

func TestP4_1HornerOfFewElements(t *testing.T) {
	for _, x := range samples() {
		if got := Horner(x); got != 0 {
			t.Errorf("Horner(%d) is %d, not 0", x, got)
		}
		if got := Horner(x, []uint64(nil)...); got != 0 {
			t.Errorf("Horner(%d, nil...) is %d, not 0", x, got)
		}
		// x to the power of 0 is 1 for x = 0 too.
		if got, want := Horner(0, 5, x), x%p; got != want {
			t.Errorf("Horner(0, 5, %d) is %d, not %d", x, got, want)
		}
		if got, want := Horner(5, x), x%p; got != want {
			t.Errorf("Horner(5, %d) is %d, not %d", x, got, want)
		}
	}
}

func TestP4_1HornerOfAMillionElements(t *testing.T) {
	list := make([]uint64, 1<<20)
	for i := range list {
		list[i] = math.MaxUint64
	}
	// The sum of 7 x^i for i from 0 to n-1 is 7 (x^n - 1) / (x - 1).
	want := Mul(7, Mul(Sub(Pow(3, 1<<20), 1), 1<<60))
	if got := Horner(3, list...); got != want {
		t.Errorf("Horner of a geometric series is %d, not %d", got, want)
	}
}

func TestP4_1HornerKeepsItsArguments(t *testing.T) {
	list := []uint64{math.MaxUint64, p, 3, 0}
	Horner(math.MaxUint64, list...)
	if !slices.Equal(list, []uint64{math.MaxUint64, p, 3, 0}) {
		t.Errorf("Horner changed its list to %d", list)
	}
}

// mixed follows the formula of the chapter.
func mixed(kind, x, y uint64) uint64 {
	sum := number(kind)
	sum.Add(sum, new(big.Int).Mul(number(1234567890123456789), number(x)))
	sum.Add(sum, new(big.Int).Mul(number(987654321987654321), number(y)))
	return sum.Exp(sum, big.NewInt(17), bigP).Uint64()
}

func TestP4_1Mix(t *testing.T) {
	for _, kind := range fewer() {
		for _, x := range fewer() {
			for _, y := range fewer() {
				if got, want := Mix(kind, x, y), mixed(kind, x, y); got != want {
					t.Errorf("Mix(%d, %d, %d) is %d, not %d", kind, x, y, got, want)
				}
			}
		}
	}
}

func TestP4_1EveryResultIsAResidue(t *testing.T) {
	for _, a := range fewer() {
		for _, b := range fewer() {
			for _, c := range fewer() {
				inverse, _ := Inverse(a)
				results := []uint64{Reduce(a), Add(a, b), Sub(a, b), Neg(a), Mul(a, b), Pow(a, b), inverse, Horner(a, b, c), Mix(a, b, c)}
				if slices.Max(results) >= p {
					t.Fatalf("with %d, %d, %d: %d", a, b, c, results)
				}
			}
		}
	}
}

func TestP4_1ArgumentsAreReducedFirst(t *testing.T) {
	for _, a := range fewer() {
		for _, b := range fewer() {
			c, d := a%p, b%p
			inverse, err := Inverse(a)
			reduced, errReduced := Inverse(c)
			if inverse != reduced || (err == nil) != (errReduced == nil) {
				t.Errorf("Inverse(%d) is %d, Inverse(%d) is %d", a, inverse, c, reduced)
			}
			got := []uint64{Reduce(a), Add(a, b), Sub(a, b), Neg(a), Mul(a, b), Pow(a, b), Horner(a, b, a), Mix(a, b, a)}
			want := []uint64{Reduce(c), Add(c, d), Sub(c, d), Neg(c), Mul(c, d), Pow(c, b), Horner(c, d, c), Mix(c, d, c)}
			if !slices.Equal(got, want) {
				t.Errorf("with %d, %d: %d; with their remainders: %d", a, b, got, want)
			}
		}
	}
}

func TestP4_2Commutes(t *testing.T) {
	for _, a := range samples() {
		for _, b := range samples() {
			if Add(a, b) != Add(b, a) || Mul(a, b) != Mul(b, a) {
				t.Errorf("%d, %d: sums %d, %d; products %d, %d", a, b, Add(a, b), Add(b, a), Mul(a, b), Mul(b, a))
			}
		}
	}
}

func TestP4_2AssociatesAndDistributes(t *testing.T) {
	for _, a := range fewer() {
		for _, b := range fewer() {
			for _, c := range fewer() {
				if Add(Add(a, b), c) != Add(a, Add(b, c)) {
					t.Errorf("Add does not associate: %d, %d, %d", a, b, c)
				}
				if Mul(Mul(a, b), c) != Mul(a, Mul(b, c)) {
					t.Errorf("Mul does not associate: %d, %d, %d", a, b, c)
				}
				if Mul(a, Add(b, c)) != Add(Mul(a, b), Mul(a, c)) {
					t.Errorf("Mul does not distribute: %d, %d, %d", a, b, c)
				}
			}
		}
	}
}

func TestP4_2NeutralAndInverseElements(t *testing.T) {
	for _, a := range samples() {
		if Add(a, 0) != a%p || Mul(a, 1) != a%p || Mul(a, 0) != 0 {
			t.Errorf("%d: %d with 0 added, %d times 1, %d times 0", a, Add(a, 0), Mul(a, 1), Mul(a, 0))
		}
		if Add(a, Neg(a)) != 0 || Sub(a, a) != 0 {
			t.Errorf("%d: %d with its negative added, %d less itself", a, Add(a, Neg(a)), Sub(a, a))
		}
		if b, err := Inverse(a); err == nil && Mul(a, b) != 1 {
			t.Errorf("%d times its inverse %d is %d", a, b, Mul(a, b))
		}
	}
}

func TestP4_2PowersOfP(t *testing.T) {
	for _, a := range samples() {
		if got := Pow(a, p); got != a%p {
			t.Errorf("%d to the power of P is %d", a, got)
		}
		if got := Pow(a, p-1); a%p != 0 && got != 1 {
			t.Errorf("%d to the power of P - 1 is %d", a, got)
		}
	}
}

// unmix returns the sum from which Mix made a key: the power of 17 is undone by the inverse of 17 modulo P - 1.
func unmix(key uint64) uint64 {
	order := new(big.Int).SetUint64(p - 1)
	root := new(big.Int).ModInverse(big.NewInt(17), order)
	return new(big.Int).Exp(number(key), root, bigP).Uint64()
}

func TestP4_3EachArgumentCanBeRecovered(t *testing.T) {
	mixX := new(big.Int).ModInverse(number(1234567890123456789), bigP)
	mixY := new(big.Int).ModInverse(number(987654321987654321), bigP)
	for _, kind := range fewer() {
		for _, x := range fewer() {
			for _, y := range fewer() {
				sum := number(unmix(Mix(kind, x, y)))
				partX := new(big.Int).Mul(number(1234567890123456789), number(x))
				partY := new(big.Int).Mul(number(987654321987654321), number(y))
				rest := new(big.Int).Sub(sum, number(kind))
				ofX := new(big.Int).Sub(rest, partY)
				ofY := new(big.Int).Sub(rest, partX)
				ofKind := sum.Sub(sum, partX.Add(partX, partY))
				got := []uint64{residue(ofKind), residue(ofX.Mul(ofX, mixX)), residue(ofY.Mul(ofY, mixY))}
				if !slices.Equal(got, []uint64{kind % p, x % p, y % p}) {
					t.Errorf("Mix(%d, %d, %d) leads back to %d", kind, x, y, got)
				}
			}
		}
	}
}

func TestP4_3DifferentArgumentsHaveDifferentKeys(t *testing.T) {
	for _, fixed := range [][2]uint64{{0, 0}, {1, 2}, {p, math.MaxUint64}, {p - 1, p + 1}, {1 << 60, 1 << 63}} {
		kinds, xs, ys := map[uint64]uint64{}, map[uint64]uint64{}, map[uint64]uint64{}
		for _, a := range samples() {
			for _, c := range []struct {
				keys map[uint64]uint64
				key  uint64
			}{
				{kinds, Mix(a, fixed[0], fixed[1])},
				{xs, Mix(fixed[0], a, fixed[1])},
				{ys, Mix(fixed[0], fixed[1], a)},
			} {
				if before, found := c.keys[c.key]; found && before != a%p {
					t.Errorf("with %d: %d and %d have the key %d", fixed, before, a, c.key)
				}
				c.keys[c.key] = a % p
			}
		}
	}
}

package length

import (
	"math"
	"math/big"
	"testing"

	"evergreen/api"
)

const top = api.MaxLength

// edges contains the integers at which a result may change, and some between them.
func edges() []int {
	list := []int{math.MinInt, math.MinInt + 1, -top - 1, -top, -top + 1, -5, -2, -1}
	list = append(list, math.MaxInt, math.MaxInt-1)
	for n := range 9 {
		list = append(list, n)
	}
	for k := 4; k < 63; k++ {
		list = append(list, 1<<k-1, 1<<k, 1<<k+1)
	}
	return append(list, 1000, 999999937, top/3, top/3+1, top/2, top/2+1, top/5, top/7)
}

// pick keeps every step-th edge and the ones around the limits, for tests over three integers.
func pick(step int) []int {
	list := []int{math.MinInt, -top, -1, 0, 1, 2, 3, 1 << 30, 1<<30 + 1, top - 1, top, top + 1, math.MaxInt}
	for i, n := range edges() {
		if i%step == 0 {
			list = append(list, n)
		}
	}
	return list
}

func wide(n int) *big.Int { return big.NewInt(int64(n)) }

// legal is the document's definition of a valid length.
func legal(n int) bool {
	return wide(n).Sign() >= 0 && wide(n).Cmp(wide(top)) <= 0
}

// bounded is x, or ErrLong if x is greater than MaxLength.
func bounded(x *big.Int) (int, error) {
	if x.Cmp(wide(top)) > 0 {
		return 0, api.ErrLong
	}
	return int(x.Int64()), nil
}

func wantAdd(a, b int) (int, error) {
	if !legal(a) || !legal(b) {
		return 0, api.ErrRange
	}
	return bounded(new(big.Int).Add(wide(a), wide(b)))
}

func wantSub(a, b int) (int, error) {
	if !legal(a) || !legal(b) || b > a {
		return 0, api.ErrRange
	}
	return bounded(new(big.Int).Sub(wide(a), wide(b)))
}

func wantMul(a, k int) (int, error) {
	if !legal(a) || k < 0 {
		return 0, api.ErrRange
	}
	return bounded(new(big.Int).Mul(wide(a), wide(k)))
}

func wantSum(list []int) (int, error) {
	total := 0
	for _, n := range list {
		next, err := wantAdd(total, n)
		if err != nil {
			return 0, err
		}
		total = next
	}
	return total, nil
}

func wantLog(n int) int {
	k := -1
	for power := wide(1); power.Cmp(wide(n)) <= 0; power.Lsh(power, 1) {
		k++
	}
	return k
}

func wantRange(from, n, size int) error {
	end := new(big.Int).Add(wide(from), wide(n))
	if !legal(size) || from < 0 || n < 0 || end.Cmp(wide(size)) > 0 {
		return api.ErrRange
	}
	return nil
}

type binary struct {
	name      string
	call      func(a, b int) (int, error)
	reference func(a, b int) (int, error)
}

func binaries() []binary {
	return []binary{{"Add", Add, wantAdd}, {"Sub", Sub, wantSub}, {"Mul", Mul, wantMul}}
}

func TestP1_1Valid(t *testing.T) {
	for _, n := range edges() {
		if got := Valid(n); got != legal(n) {
			t.Errorf("Valid(%d): %t", n, got)
		}
	}
	for n, want := range map[int]bool{0: true, 1: true, top - 1: true, top: true, top + 1: false, -1: false, math.MaxInt: false, math.MinInt: false} {
		if got := Valid(n); got != want {
			t.Errorf("Valid(%d): %t", n, got)
		}
	}
}

func TestP1_1BinaryAgreeWithBigIntegers(t *testing.T) {
	for _, f := range binaries() {
		for _, a := range edges() {
			for _, b := range edges() {
				got, err := f.call(a, b)
				want, wanted := f.reference(a, b)
				if got != want || err != wanted {
					t.Fatalf("%s(%d, %d): %d, %v; want %d, %v", f.name, a, b, got, err, want, wanted)
				}
			}
		}
	}
}

func TestP1_1BinaryExamples(t *testing.T) {
	for _, c := range []struct {
		name    string
		call    func(a, b int) (int, error)
		a, b    int
		want    int
		trouble error
	}{
		{"Add", Add, 3, 4, 7, nil},
		{"Add", Add, 0, 0, 0, nil},
		{"Add", Add, top - 1, 1, top, nil},
		{"Add", Add, top, 0, top, nil},
		{"Add", Add, top, 1, 0, api.ErrLong},
		{"Add", Add, 1, top, 0, api.ErrLong},
		{"Add", Add, top, top, 0, api.ErrLong},
		{"Add", Add, -1, 5, 0, api.ErrRange},
		{"Add", Add, 5, -1, 0, api.ErrRange},
		{"Add", Add, top + 1, 0, 0, api.ErrRange},
		{"Add", Add, 0, top + 1, 0, api.ErrRange},
		{"Add", Add, top + 1, -1, 0, api.ErrRange},
		{"Add", Add, math.MaxInt, math.MaxInt, 0, api.ErrRange},
		{"Add", Add, math.MinInt, math.MinInt, 0, api.ErrRange},
		{"Sub", Sub, 5, 5, 0, nil},
		{"Sub", Sub, top, 0, top, nil},
		{"Sub", Sub, top, top, 0, nil},
		{"Sub", Sub, 4, 5, 0, api.ErrRange},
		{"Sub", Sub, 0, 1, 0, api.ErrRange},
		{"Sub", Sub, 5, -1, 0, api.ErrRange},
		{"Sub", Sub, -1, -1, 0, api.ErrRange},
		{"Sub", Sub, top + 1, 1, 0, api.ErrRange},
		{"Sub", Sub, 0, math.MinInt, 0, api.ErrRange},
		{"Mul", Mul, 1 << 30, 1 << 30, top, nil},
		{"Mul", Mul, 1 << 30, 1<<30 + 1, 0, api.ErrLong},
		{"Mul", Mul, 0, 1 << 62, 0, nil},
		{"Mul", Mul, 0, math.MaxInt, 0, nil},
		{"Mul", Mul, top, 0, 0, nil},
		{"Mul", Mul, top, 1, top, nil},
		{"Mul", Mul, 1, top, top, nil},
		{"Mul", Mul, 1, top + 1, 0, api.ErrLong},
		{"Mul", Mul, 16, 1 << 60, 0, api.ErrLong},
		{"Mul", Mul, 2, math.MaxInt, 0, api.ErrLong},
		{"Mul", Mul, 1 << 32, 1 << 32, 0, api.ErrLong},
		{"Mul", Mul, 3, -1, 0, api.ErrRange},
		{"Mul", Mul, 0, -1, 0, api.ErrRange},
		{"Mul", Mul, 0, math.MinInt, 0, api.ErrRange},
		{"Mul", Mul, -3, 0, 0, api.ErrRange},
		{"Mul", Mul, -3, -1, 0, api.ErrRange},
		{"Mul", Mul, top + 1, 0, 0, api.ErrRange},
	} {
		if got, err := c.call(c.a, c.b); got != c.want || err != c.trouble {
			t.Errorf("%s(%d, %d): %d, %v; want %d, %v", c.name, c.a, c.b, got, err, c.want, c.trouble)
		}
	}
}

func TestP1_1Sum(t *testing.T) {
	for _, c := range []struct {
		list    []int
		want    int
		trouble error
	}{
		{nil, 0, nil},
		{[]int{}, 0, nil},
		{[]int{7}, 7, nil},
		{[]int{1, 2, 3}, 6, nil},
		{[]int{top / 2, top / 2, 0}, top, nil},
		{[]int{top / 2, top / 2, 0, 1}, 0, api.ErrLong},
		{[]int{top, 1, -1}, 0, api.ErrLong},
		{[]int{top, -1, 1}, 0, api.ErrRange},
		{[]int{-1}, 0, api.ErrRange},
		{[]int{5, -5}, 0, api.ErrRange},
		{[]int{top + 1}, 0, api.ErrRange},
		{[]int{top, 0, top + 1}, 0, api.ErrRange},
		{[]int{math.MaxInt, math.MaxInt, 2}, 0, api.ErrRange},
	} {
		if got, err := Sum(c.list...); got != c.want || err != c.trouble {
			t.Errorf("Sum(%v): %d, %v; want %d, %v", c.list, got, err, c.want, c.trouble)
		}
	}
}

func TestP1_1SumOfThreeAgreesWithBigIntegers(t *testing.T) {
	list := pick(7)
	for _, a := range list {
		for _, b := range list {
			for _, c := range list {
				got, err := Sum(a, b, c)
				want, wanted := wantSum([]int{a, b, c})
				if got != want || err != wanted {
					t.Fatalf("Sum(%d, %d, %d): %d, %v; want %d, %v", a, b, c, got, err, want, wanted)
				}
			}
		}
	}
}

func TestP1_1SumKeepsItsArguments(t *testing.T) {
	list := []int{4, 5, 6}
	if got, err := Sum(list...); got != 15 || err != nil {
		t.Errorf("Sum: %d, %v", got, err)
	}
	if list[0] != 4 || list[1] != 5 || list[2] != 6 {
		t.Errorf("Sum changed its arguments: %v", list)
	}
}

func TestP1_1Log(t *testing.T) {
	for n, want := range map[int]int{1: 0, 2: 1, 3: 1, 4: 2, 5: 2, 7: 2, 8: 3, top - 1: 59, top: 60, top + 1: 60, math.MaxInt: 62, 0: -1, -1: -1, -8: -1, math.MinInt: -1} {
		if got := Log(n); got != want {
			t.Errorf("Log(%d): %d; want %d", n, got, want)
		}
	}
	for _, n := range edges() {
		if got := Log(n); got != wantLog(n) {
			t.Errorf("Log(%d): %d; want %d", n, got, wantLog(n))
		}
	}
}

func TestP1_1Range(t *testing.T) {
	for _, c := range []struct {
		from, n, size int
		want          error
	}{
		{2, 3, 5, nil},
		{5, 0, 5, nil},
		{0, 0, 0, nil},
		{0, top, top, nil},
		{top, 0, top, nil},
		{2, 4, 5, api.ErrRange},
		{6, 0, 5, api.ErrRange},
		{6, -1, 5, api.ErrRange},
		{-1, 2, 5, api.ErrRange},
		{1, top, top, api.ErrRange},
		{0, 0, -1, api.ErrRange},
		{0, -1, -1, api.ErrRange},
		{0, 0, top + 1, api.ErrRange},
		{1, math.MaxInt, 5, api.ErrRange},
		{math.MaxInt, 1, 5, api.ErrRange},
		{math.MaxInt, math.MaxInt, top, api.ErrRange},
		{math.MinInt, math.MaxInt, top, api.ErrRange},
	} {
		if got := Range(c.from, c.n, c.size); got != c.want {
			t.Errorf("Range(%d, %d, %d): %v; want %v", c.from, c.n, c.size, got, c.want)
		}
	}
	list := pick(5)
	for _, from := range list {
		for _, n := range list {
			for _, size := range list {
				got, want := Range(from, n, size), wantRange(from, n, size)
				if got != want {
					t.Fatalf("Range(%d, %d, %d): %v; want %v", from, n, size, got, want)
				}
			}
		}
	}
}

func TestP1_1Clip(t *testing.T) {
	for _, c := range []struct{ n, low, high, want int }{
		{7, 2, 5, 5},
		{1, 2, 5, 2},
		{3, 2, 5, 3},
		{2, 2, 5, 2},
		{5, 2, 5, 5},
		{9, 4, 4, 4},
		{-9, -4, -2, -4},
		{1, 4, 2, 4},
		{2, 4, 2, 4},
		{3, 4, 2, 4},
		{4, 4, 2, 2},
		{7, 4, 2, 2},
		{0, math.MinInt, math.MaxInt, 0},
		{math.MinInt, math.MinInt, math.MaxInt, math.MinInt},
		{math.MaxInt, math.MinInt, math.MaxInt, math.MaxInt},
		{math.MaxInt, math.MaxInt, math.MinInt, math.MinInt},
		{math.MinInt, math.MaxInt, math.MinInt, math.MaxInt},
	} {
		if got := Clip(c.n, c.low, c.high); got != c.want {
			t.Errorf("Clip(%d, %d, %d): %d; want %d", c.n, c.low, c.high, got, c.want)
		}
	}
}

func TestP1_2SubUndoesAdd(t *testing.T) {
	held := 0
	for _, a := range edges() {
		for _, b := range edges() {
			sum, err := Add(a, b)
			if err != nil {
				continue
			}
			held++
			if left, err := Sub(sum, b); left != a || err != nil {
				t.Fatalf("Sub(Add(%d, %d), %d): %d, %v", a, b, b, left, err)
			}
			if right, err := Sub(sum, a); right != b || err != nil {
				t.Fatalf("Sub(Add(%d, %d), %d): %d, %v", a, b, a, right, err)
			}
		}
	}
	if held == 0 {
		t.Fatal("no sum was valid")
	}
}

func TestP1_2AddUndoesSub(t *testing.T) {
	held := 0
	for _, a := range edges() {
		for _, b := range edges() {
			rest, err := Sub(a, b)
			if err != nil {
				continue
			}
			held++
			if whole, err := Add(rest, b); whole != a || err != nil {
				t.Fatalf("Add(Sub(%d, %d), %d): %d, %v", a, b, b, whole, err)
			}
		}
	}
	if held == 0 {
		t.Fatal("no difference was valid")
	}
}

// apart returns a * k + b * k, computed by the package.
func apart(a, b, k int) (int, error) {
	left, err := Mul(a, k)
	if err != nil {
		return 0, err
	}
	right, err := Mul(b, k)
	if err != nil {
		return 0, err
	}
	return Add(left, right)
}

func TestP1_2MulDistributesOverAdd(t *testing.T) {
	held, long := 0, 0
	list := pick(5)
	for _, a := range list {
		for _, b := range list {
			sum, err := Add(a, b)
			if err != nil {
				continue
			}
			for _, k := range list {
				got, err := Mul(sum, k)
				want, wanted := apart(a, b, k)
				if got != want || err != wanted {
					t.Fatalf("Mul(Add(%d, %d), %d): %d, %v; want %d, %v", a, b, k, got, err, want, wanted)
				}
				if err == nil {
					held++
				}
				if err == api.ErrLong {
					long++
				}
			}
		}
	}
	if held == 0 || long == 0 {
		t.Fatalf("%d products were valid, %d too long", held, long)
	}
}

package scalar

import (
	"math"
	"math/big"
	"slices"
	"testing"
)

const (
	least = math.MinInt64
	most  = math.MaxInt64
)

// edges are numbers around 0, around the powers of two and the square roots where products begin to go round, and at the ends of 64 bits, of either sign.
func edges() []int64 {
	list := []int64{0, least, least + 1, least + 2, most, most - 1, 3037000499, 3037000500, -3037000499, -3037000500, 1234567890123456789, -987654321987654321}
	for _, bit := range []int{0, 1, 2, 3, 7, 15, 30, 31, 32, 33, 40, 61, 62} {
		n := int64(1) << bit
		list = append(list, n-1, n, n+1, -n-1, -n, -n+1)
	}
	slices.Sort(list)
	return slices.Compact(list)
}

// exact is what a call must answer whose result is n.
func exact(n *big.Int) (int64, bool) {
	if !n.IsInt64() {
		return 0, false
	}
	return n.Int64(), true
}

// P1.1: sums, differences and products are exact, or 0, false.
func TestExactOrFalse(t *testing.T) {
	for _, op := range []struct {
		name string
		call func(a, b int64) (int64, bool)
		want func(z, a, b *big.Int) *big.Int
	}{{"Add", Add, (*big.Int).Add}, {"Sub", Sub, (*big.Int).Sub}, {"Mul", Mul, (*big.Int).Mul}} {
		for _, a := range edges() {
			for _, b := range edges() {
				want, fits := exact(op.want(new(big.Int), big.NewInt(a), big.NewInt(b)))
				if n, ok := op.call(a, b); n != want || ok != fits {
					t.Errorf("%s(%d, %d) = %d, %v; want %d, %v", op.name, a, b, n, ok, want, fits)
				}
			}
		}
	}
}

// P1.1: the ends of 64 bits, written out.
func TestEnds(t *testing.T) {
	for _, c := range []struct {
		name string
		call func(a, b int64) (int64, bool)
		a, b int64
		want int64
		fits bool
	}{
		{"Add", Add, most, 0, most, true}, {"Add", Add, most, 1, 0, false}, {"Add", Add, 1, most, 0, false},
		{"Add", Add, least, -1, 0, false}, {"Add", Add, -1, least, 0, false}, {"Add", Add, least, most, -1, true},
		{"Add", Add, least, least, 0, false}, {"Add", Add, least, 0, least, true},
		{"Sub", Sub, least, 1, 0, false}, {"Sub", Sub, most, -1, 0, false}, {"Sub", Sub, 0, least, 0, false},
		{"Sub", Sub, -1, least, most, true}, {"Sub", Sub, least, least, 0, true}, {"Sub", Sub, -2, most, 0, false},
		{"Sub", Sub, -1, most, least, true},
		{"Mul", Mul, least, -1, 0, false}, {"Mul", Mul, -1, least, 0, false}, {"Mul", Mul, least, 1, least, true},
		{"Mul", Mul, 1, least, least, true}, {"Mul", Mul, most, -1, -most, true}, {"Mul", Mul, 0, least, 0, true},
		{"Mul", Mul, least, 0, 0, true}, {"Mul", Mul, 1 << 32, 1 << 31, 0, false}, {"Mul", Mul, -1 << 32, 1 << 31, least, true},
		{"Mul", Mul, 1 << 32, -1 << 31, least, true}, {"Mul", Mul, -1 << 32, -1 << 31, 0, false},
		{"Mul", Mul, 1 << 32, 1 << 32, 0, false}, {"Mul", Mul, least, least, 0, false}, {"Mul", Mul, least, 2, 0, false},
	} {
		if n, ok := c.call(c.a, c.b); n != c.want || ok != c.fits {
			t.Errorf("%s(%d, %d) = %d, %v; want %d, %v", c.name, c.a, c.b, n, ok, c.want, c.fits)
		}
	}
}

// P1.1: of Up the answer, times b, is at least a, and one less isn't.
func TestUp(t *testing.T) {
	for _, a := range edges() {
		for _, b := range edges() {
			n := Up(a, b)
			if a < 1 || b < 1 {
				if n != 0 {
					t.Errorf("Up(%d, %d) = %d; want 0", a, b, n)
				}
				continue
			}
			reach := new(big.Int).Mul(big.NewInt(n), big.NewInt(b))
			below := new(big.Int).Sub(reach, big.NewInt(b))
			if reach.Cmp(big.NewInt(a)) < 0 || below.Cmp(big.NewInt(a)) >= 0 {
				t.Errorf("Up(%d, %d) = %d", a, b, n)
			}
		}
	}
	for _, c := range [][3]int64{{7, 2, 4}, {6, 2, 3}, {1, 1, 1}, {1, most, 1}, {most, most, 1}, {most, most - 1, 2}, {most, 1, most}, {most, 2, 1 << 62}, {0, 1, 0}, {1, 0, 0}, {0, 0, 0}, {-7, -2, 0}, {least, least, 0}, {least, -1, 0}, {7, -2, 0}} {
		if n := Up(c[0], c[1]); n != c[2] {
			t.Errorf("Up(%d, %d) = %d; want %d", c[0], c[1], n, c[2])
		}
	}
}

// P1.1: bounds, and bounds that cross.
func TestBounds(t *testing.T) {
	for _, c := range []struct {
		n, low, high, want int64
		in                 bool
	}{
		{5, 1, 9, 5, true}, {1, 1, 9, 1, true}, {9, 1, 9, 9, true}, {0, 1, 9, 1, false}, {10, 1, 9, 9, false},
		{3, 3, 3, 3, true}, {2, 3, 3, 3, false}, {4, 3, 3, 3, false},
		{most, least, most, most, true}, {least, least, most, least, true}, {0, least, most, 0, true},
		{least, most, most, most, false}, {most, least, least, least, false},
		{0, 7, 3, 7, false}, {3, 7, 3, 7, false}, {5, 7, 3, 7, false}, {7, 7, 3, 7, false}, {9, 7, 3, 7, false},
		{least, most, least, most, false}, {0, most, least, most, false}, {most, most, least, most, false},
		{-5, -9, -1, -5, true}, {-10, -9, -1, -9, false}, {0, -9, -1, -1, false},
	} {
		if n := Clamp(c.n, c.low, c.high); n != c.want {
			t.Errorf("Clamp(%d, %d, %d) = %d; want %d", c.n, c.low, c.high, n, c.want)
		}
		if in := Within(c.n, c.low, c.high); in != c.in {
			t.Errorf("Within(%d, %d, %d) = %v; want %v", c.n, c.low, c.high, in, c.in)
		}
	}
}

type weight int64
type place int

// P1.1: sums of lists of each type, empty ones too.
func TestSum(t *testing.T) {
	if n, ok := Sum[int64](nil); n != 0 || !ok {
		t.Errorf("nil: %d, %v", n, ok)
	}
	if n, ok := Sum([]int{}); n != 0 || !ok {
		t.Errorf("empty: %d, %v", n, ok)
	}
	if n, ok := Sum([]int{1, 2, -5}); n != -2 || !ok {
		t.Errorf("int: %d, %v", n, ok)
	}
	if n, ok := Sum([]weight{most, least, 4}); n != 3 || !ok {
		t.Errorf("weight: %d, %v", n, ok)
	}
	if n, ok := Sum([]place{-7}); n != -7 || !ok {
		t.Errorf("place: %d, %v", n, ok)
	}
}

// P1.1: a sum that goes round on the way isn't one, though later numbers would bring it back.
func TestSumRoundOnTheWay(t *testing.T) {
	for _, c := range []struct {
		list []int64
		want int64
		fits bool
	}{
		{[]int64{most, 1, -1}, 0, false}, {[]int64{1, most, -1}, 0, false}, {[]int64{-1, most, 1}, most, true},
		{[]int64{least, -1, 1}, 0, false}, {[]int64{1, least, -1}, least, true}, {[]int64{most, 1}, 0, false},
		{[]int64{least, least}, 0, false}, {[]int64{most, most, 2}, 0, false}, {[]int64{least, most, 1}, 0, true},
		{[]int64{most, 0, 0}, most, true}, {[]int64{least}, least, true},
		{[]int64{5, most, -5, -5}, 0, false},
	} {
		if n, ok := Sum(c.list); n != c.want || ok != c.fits {
			t.Errorf("Sum(%v) = %d, %v; want %d, %v", c.list, n, ok, c.want, c.fits)
		}
	}
}

// P2: what is handed in isn't turned.
func TestSumLeavesItsList(t *testing.T) {
	memory := []int64{3, most, 1, 9}
	Sum(memory[:2])
	Sum(memory[:3])
	if !slices.Equal(memory, []int64{3, most, 1, 9}) {
		t.Errorf("turned: %v", memory)
	}
}

// P1.2: what is added is taken off again, and the other way round.
func TestAddedIsTakenOff(t *testing.T) {
	for _, a := range edges() {
		for _, b := range edges() {
			if sum, ok := Add(a, b); ok {
				if n, ok := Sub(sum, b); n != a || !ok {
					t.Errorf("%d + %d - %d = %d, %v", a, b, b, n, ok)
				}
			}
			if rest, ok := Sub(a, b); ok {
				if n, ok := Add(rest, b); n != a || !ok {
					t.Errorf("%d - %d + %d = %d, %v", a, b, b, n, ok)
				}
			}
		}
	}
}

// P1.2: a product is the sum of as many: the one goes round where the other does.
func TestProductIsSum(t *testing.T) {
	for _, a := range edges() {
		for times := range 40 {
			sum, fits := Sum(slices.Repeat([]int64{a}, times))
			if n, ok := Mul(a, int64(times)); n != sum || ok != fits {
				t.Errorf("Mul(%d, %d) = %d, %v; sum %d, %v", a, times, n, ok, sum, fits)
			}
			if n, ok := Mul(int64(times), a); n != sum || ok != fits {
				t.Errorf("Mul(%d, %d) = %d, %v; sum %d, %v", times, a, n, ok, sum, fits)
			}
		}
	}
}

package word

import (
	"math"
	"math/big"
	"testing"
)

// edges are the words at which carries, signs, shifts and quotients turn.
var edges = []uint32{
	0, 1, 2, 3, 5, 7, 8, 31, 32, 33, 255, 0xFFFF, 0x10000, 0x10001, 0x12345678,
	0x3FFFFFFF, 0x40000000, 0x7FFFFFFE, 0x7FFFFFFF, 0x80000000, 0x80000001,
	0xA5A5A5A5, 0xC0000000, 0xFFFF0000, 0xFFFFFFF9, 0xFFFFFFFD, 0xFFFFFFFE, 0xFFFFFFFF,
}

// samples are the edges, and words that a fixed rule spreads over all of them.
func samples() []uint32 {
	all := append([]uint32{}, edges...)
	x := uint32(2463534242)
	for range 200 {
		x ^= x << 13
		x ^= x >> 17
		x ^= x << 5
		all = append(all, x, x>>(x%32))
	}
	return all
}

func eachPair(f func(a, b uint32)) {
	all := samples()
	for _, a := range all {
		for _, b := range all {
			f(a, b)
		}
	}
}

func wide(a uint32) *big.Int { return new(big.Int).SetUint64(uint64(a)) }

func wideSigned(a uint32) *big.Int { return big.NewInt(int64(int32(a))) }

// lower is x modulo 2^32; Mod of big rounds down, so that this holds below 0 too.
func lower(x *big.Int) uint32 {
	return uint32(new(big.Int).Mod(x, big.NewInt(1<<32)).Uint64())
}

func leavesSigned(x *big.Int) bool {
	return x.Cmp(big.NewInt(math.MinInt32)) < 0 || x.Cmp(big.NewInt(math.MaxInt32)) > 0
}

func bit(set bool) *big.Int {
	if set {
		return big.NewInt(1)
	}
	return big.NewInt(0)
}

func plus(x ...*big.Int) *big.Int {
	sum := new(big.Int)
	for _, y := range x {
		sum.Add(sum, y)
	}
	return sum
}

func minus(x, y, z *big.Int) *big.Int {
	return new(big.Int).Sub(x, plus(y, z))
}

// P1.1

func TestAddExamples(t *testing.T) {
	for _, x := range []struct {
		a, b  uint32
		carry bool
		r     uint32
		c, v  bool
	}{
		{1, 2, false, 3, false, false},
		{1, 2, true, 4, false, false},
		{0, 0, true, 1, false, false},
		{0xFFFFFFFF, 0, false, 0xFFFFFFFF, false, false},
		{0xFFFFFFFF, 0, true, 0, true, false},
		{0xFFFFFFFF, 1, false, 0, true, false},
		{0x7FFFFFFF, 0, true, 0x80000000, false, true},
		{0x7FFFFFFF, 1, false, 0x80000000, false, true},
		{0x7FFFFFFF, 0x7FFFFFFF, true, 0xFFFFFFFF, false, true},
		{0x80000000, 0x80000000, false, 0, true, true},
		{0x80000000, 0xFFFFFFFF, false, 0x7FFFFFFF, true, true},
		// The carry brings the sum back among the signed numbers.
		{0x80000000, 0xFFFFFFFF, true, 0x80000000, true, false},
		{0x7FFFFFFF, 0x80000000, true, 0, true, false},
		{0xFFFFFFFF, 0xFFFFFFFF, true, 0xFFFFFFFF, true, false},
	} {
		r, c, v := Add(x.a, x.b, x.carry)
		if r != x.r || c != x.c || v != x.v {
			t.Errorf("Add(%#x, %#x, %v) = %#x, %v, %v, want %#x, %v, %v", x.a, x.b, x.carry, r, c, v, x.r, x.c, x.v)
		}
	}
}

func TestSubExamples(t *testing.T) {
	for _, x := range []struct {
		a, b   uint32
		borrow bool
		r      uint32
		c, v   bool
	}{
		{3, 2, false, 1, false, false},
		{3, 2, true, 0, false, false},
		{2, 3, false, 0xFFFFFFFF, true, false},
		{5, 5, false, 0, false, false},
		{5, 5, true, 0xFFFFFFFF, true, false},
		{0, 0, true, 0xFFFFFFFF, true, false},
		// b and the borrow are 2^32: no word, and above every a.
		{0xFFFFFFFF, 0xFFFFFFFF, true, 0xFFFFFFFF, true, false},
		{0, 0xFFFFFFFF, true, 0, true, false},
		{0x80000000, 0, true, 0x7FFFFFFF, false, true},
		{0x80000000, 1, false, 0x7FFFFFFF, false, true},
		{0x7FFFFFFF, 0xFFFFFFFF, false, 0x80000000, true, true},
		// The borrow brings the difference back among the signed numbers.
		{0x7FFFFFFF, 0xFFFFFFFF, true, 0x7FFFFFFF, true, false},
		{0, 0x80000000, false, 0x80000000, true, true},
		{0, 0x80000000, true, 0x7FFFFFFF, true, false},
	} {
		r, c, v := Sub(x.a, x.b, x.borrow)
		if r != x.r || c != x.c || v != x.v {
			t.Errorf("Sub(%#x, %#x, %v) = %#x, %v, %v, want %#x, %v, %v", x.a, x.b, x.borrow, r, c, v, x.r, x.c, x.v)
		}
	}
}

func TestAddIsTheSum(t *testing.T) {
	top := big.NewInt(1 << 32)
	eachPair(func(a, b uint32) {
		for _, carry := range []bool{false, true} {
			sum := plus(wide(a), wide(b), bit(carry))
			over := leavesSigned(plus(wideSigned(a), wideSigned(b), bit(carry)))
			r, c, v := Add(a, b, carry)
			if r != lower(sum) || c != (sum.Cmp(top) >= 0) || v != over {
				t.Fatalf("Add(%#x, %#x, %v) = %#x, %v, %v", a, b, carry, r, c, v)
			}
		}
	})
}

func TestSubIsTheDifference(t *testing.T) {
	eachPair(func(a, b uint32) {
		for _, borrow := range []bool{false, true} {
			difference := minus(wide(a), wide(b), bit(borrow))
			over := leavesSigned(minus(wideSigned(a), wideSigned(b), bit(borrow)))
			r, c, v := Sub(a, b, borrow)
			if r != lower(difference) || c != (difference.Sign() < 0) || v != over {
				t.Fatalf("Sub(%#x, %#x, %v) = %#x, %v, %v", a, b, borrow, r, c, v)
			}
		}
	})
}

// P1.2

func TestShiftExamples(t *testing.T) {
	for _, x := range []struct {
		kind    int
		a, n, r uint32
	}{
		{1, 3, 4, 48},
		{1, 0x80000000, 1, 0},
		{1, 1, 31, 0x80000000},
		{1, 5, 0, 5},
		{2, 8, 2, 2},
		{2, 0xFFFFFFF8, 2, 0xFFFFFFFE},
		{2, 0x80000000, 31, 0xFFFFFFFF},
		{2, 0x7FFFFFFF, 31, 0},
		{2, 0x80000000, 0, 0x80000000},
		{3, 1, 1, 0x80000000},
		{3, 0x12345678, 8, 0x78123456},
		{3, 0x80000001, 31, 3},
		{3, 0x12345678, 0, 0x12345678},
		{1, 5, 32, 5},
		{1, 5, 33, 10},
		{2, 0x80000000, 32, 0x80000000},
		{2, 0x80000000, 65, 0xC0000000},
		{3, 0x12345678, 32, 0x12345678},
		{3, 0x12345678, 40, 0x78123456},
		{1, 1, 0xFFFFFFFF, 0x80000000},
		{2, 0x80000000, 0xFFFFFFFF, 0xFFFFFFFF},
		{3, 1, 0xFFFFFFFF, 2},
	} {
		if r := Shift(x.kind, x.a, x.n); r != x.r {
			t.Errorf("Shift(%d, %#x, %d) = %#x, want %#x", x.kind, x.a, x.n, r, x.r)
		}
	}
}

// bitOfShift says where bit i of a shifted word comes from.
func bitOfShift(kind int, a uint32, n, i int) uint32 {
	from := i + n
	switch kind {
	case 1:
		from = i - n
	case 2:
		from = min(from, 31)
	case 3:
		from %= 32
	}
	if from < 0 {
		return 0
	}
	return a >> from & 1
}

func TestShiftBitByBit(t *testing.T) {
	for _, a := range samples() {
		for kind := 1; kind <= 3; kind++ {
			for n := uint32(0); n < 100; n++ {
				want := uint32(0)
				for i := range 32 {
					want |= bitOfShift(kind, a, int(n%32), i) << i
				}
				if r := Shift(kind, a, n); r != want {
					t.Fatalf("Shift(%d, %#x, %d) = %#x, want %#x", kind, a, n, r, want)
				}
			}
		}
	}
}

func TestShiftOfNoKind(t *testing.T) {
	// The last ones are kinds 1 to 3 again in their lowest 8, or 32 bits.
	kinds := []int{0, 4, 5, -1, -2, -3, math.MinInt, math.MaxInt, 257, 1<<32 + 1, 1<<32 + 2, 1<<32 + 3}
	for _, kind := range kinds {
		for _, a := range edges {
			for _, n := range edges {
				if r := Shift(kind, a, n); r != a {
					t.Fatalf("Shift(%d, %#x, %d) = %#x", kind, a, n, r)
				}
			}
		}
	}
}

// P1.3

func TestMulExamples(t *testing.T) {
	for _, x := range []struct {
		a, b      uint32
		unsigned  bool
		low, high uint32
	}{
		{6, 7, false, 42, 0},
		{6, 7, true, 42, 0},
		{0xFFFFFFFF, 0, false, 0, 0},
		{0xFFFFFFFF, 1, false, 0xFFFFFFFF, 0xFFFFFFFF},
		{0xFFFFFFFF, 1, true, 0xFFFFFFFF, 0},
		{1, 0xFFFFFFFF, false, 0xFFFFFFFF, 0xFFFFFFFF},
		{0xFFFFFFFF, 0xFFFFFFFF, false, 1, 0},
		{0xFFFFFFFF, 0xFFFFFFFF, true, 1, 0xFFFFFFFE},
		{0x80000000, 0x80000000, false, 0, 0x40000000},
		{0x80000000, 0x80000000, true, 0, 0x40000000},
		{0x80000000, 0x7FFFFFFF, false, 0x80000000, 0xC0000000},
		{0x80000000, 0x7FFFFFFF, true, 0x80000000, 0x3FFFFFFF},
		{0x10000, 0x10000, true, 0, 1},
	} {
		low, high := Mul(x.a, x.b, x.unsigned)
		if low != x.low || high != x.high {
			t.Errorf("Mul(%#x, %#x, %v) = %#x, %#x, want %#x, %#x", x.a, x.b, x.unsigned, low, high, x.low, x.high)
		}
	}
}

func TestMulIsTheProduct(t *testing.T) {
	check := func(a, b uint32, unsigned bool, product *big.Int) {
		upper := new(big.Int).Rsh(product, 32)
		low, high := Mul(a, b, unsigned)
		if low != lower(product) || high != lower(upper) {
			t.Fatalf("Mul(%#x, %#x, %v) = %#x, %#x", a, b, unsigned, low, high)
		}
	}
	eachPair(func(a, b uint32) {
		check(a, b, true, new(big.Int).Mul(wide(a), wide(b)))
		check(a, b, false, new(big.Int).Mul(wideSigned(a), wideSigned(b)))
	})
}

func word(x int) uint32 { return uint32(x) }

func TestDivExamples(t *testing.T) {
	for _, x := range []struct{ a, b, q, r int }{
		{7, 2, 3, 1},
		{-7, 2, -4, 1},
		{6, 3, 2, 0},
		{-6, 3, -2, 0},
		{0, 5, 0, 0},
		{1, 5, 0, 1},
		{-1, 5, -1, 4},
		{-1, 1, -1, 0},
		{math.MinInt32, 1, math.MinInt32, 0},
		{math.MinInt32, 3, -715827883, 1},
		{math.MinInt32, math.MaxInt32, -2, math.MaxInt32 - 1},
		{math.MaxInt32, math.MaxInt32, 1, 0},
		{-1, math.MaxInt32, -1, math.MaxInt32 - 1},
	} {
		q, r, ok := Div(word(x.a), word(x.b))
		if q != word(x.q) || r != word(x.r) || !ok {
			t.Errorf("Div of %d, %d = %d, %d, %v, want %d, %d", x.a, x.b, int32(q), int32(r), ok, x.q, x.r)
		}
	}
}

func TestDivByNothingAbove0(t *testing.T) {
	for _, b := range []int{0, -1, -2, -7, math.MinInt32, math.MinInt32 + 1} {
		for _, a := range samples() {
			if q, r, ok := Div(a, word(b)); q != 0 || r != 0 || ok {
				t.Fatalf("Div of %d, %d = %d, %d, %v", int32(a), b, int32(q), int32(r), ok)
			}
		}
	}
}

func TestDivRoundsDown(t *testing.T) {
	eachPair(func(a, b uint32) {
		q, r, ok := Div(a, b)
		if ok != (int32(b) > 0) {
			t.Fatalf("Div of %d, %d tells %v", int32(a), int32(b), ok)
		}
		if !ok {
			return
		}
		x, y, z := int64(int32(a)), int64(int32(b)), int64(int32(q))
		if z*y > x || (z+1)*y <= x || int64(r) != x-z*y {
			t.Fatalf("Div of %d, %d = %d, %d", x, y, z, r)
		}
	})
}

// P1.4

func TestWhatWasAddedIsSubtracted(t *testing.T) {
	eachPair(func(a, b uint32) {
		for _, one := range []bool{false, true} {
			sum, carried, _ := Add(a, b, one)
			back, borrowed, _ := Sub(sum, b, one)
			if back != a {
				t.Fatalf("%#x and %#x (%v), less the same, is %#x", a, b, one, back)
			}
			// A sum that left the word is below what was added to it, and only then.
			if carried != borrowed {
				t.Fatalf("%#x and %#x (%v): carry %v, borrow %v", a, b, one, carried, borrowed)
			}
		}
	})
}

func TestQuotientAndRestAreTheDividend(t *testing.T) {
	eachPair(func(a, b uint32) {
		q, r, ok := Div(a, b)
		if !ok {
			return
		}
		low, high := Mul(q, b, false)
		sum, carry, _ := Add(low, r, false)
		if sum != a {
			t.Fatalf("%#x by %#x: %#x times that and %#x is %#x", a, b, q, r, sum)
		}
		// All 64 bits: the upper half is a's sign once the carry is in.
		top, _, _ := Add(high, 0, carry)
		if top != Shift(2, a, 31) {
			t.Fatalf("%#x by %#x: upper half %#x", a, b, top)
		}
		if r >= b {
			t.Fatalf("%#x by %#x leaves %#x", a, b, r)
		}
	})
}

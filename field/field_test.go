package field

import (
	"math"
	"math/big"
	"testing"
)

var words = []uint32{
	0, 1, 2, 3, 0x80, 0xABCD, 0x12345678, 0x55555555, 0xAAAAAAAA,
	0x7FFFFFFF, 0x80000000, 0x80000001, 0xF0000000, 0xFFFFFFFE, 0xFFFFFFFF,
}

// samples are the words above, and some that a fixed rule spreads over all of them.
func samples(more int) []uint32 {
	all := append([]uint32{}, words...)
	x := uint32(2463534242)
	for range more {
		x ^= x << 13
		x ^= x >> 17
		x ^= x << 5
		all = append(all, x)
	}
	return all
}

// edges are places and numbers of bits around the ends of a word, and around those of int.
func edges() []int {
	var all []int
	for i := -70; i <= 70; i++ {
		all = append(all, i)
	}
	for i := range 40 {
		all = append(all, math.MinInt+i, math.MaxInt-i)
	}
	return append(all, math.MinInt32, math.MaxInt32, math.MaxUint32, -math.MaxUint32)
}

// placeOf is what the document says of a field, in whole numbers that never go round: which bit of the part is bit i of the word.
func placeOf(i, at, n int) (place *big.Int, in bool) {
	place = new(big.Int).Sub(big.NewInt(int64(i)), big.NewInt(int64(at)))
	return place, place.Sign() >= 0 && place.Cmp(big.NewInt(int64(n))) < 0
}

func bitAt(w uint32, place *big.Int) uint {
	if !place.IsInt64() || place.Int64() > 31 {
		return 0
	}
	return uint(w>>place.Int64()) & 1
}

func wantGet(w uint32, at, n int) uint32 {
	part := new(big.Int)
	for i := range 32 {
		if place, in := placeOf(i, at, n); in && place.IsInt64() && place.Int64() < 32 {
			part.SetBit(part, int(place.Int64()), uint(w>>i)&1)
		}
	}
	return uint32(part.Uint64())
}

func wantSet(w uint32, at, n int, x uint32) uint32 {
	whole := new(big.Int).SetUint64(uint64(w))
	for i := range 32 {
		if place, in := placeOf(i, at, n); in {
			whole.SetBit(whole, i, bitAt(x, place))
		}
	}
	return uint32(whole.Uint64())
}

// P2.1

func TestGetAndSetOfNamedFields(t *testing.T) {
	for _, c := range []struct {
		name     string
		w        uint32
		at, n    int
		x        uint32
		get, set uint32
	}{
		{"the document's example", 0xABCD, 4, 8, 0x12, 0xBC, 0xA12D},
		{"the lowest bit", 0xABCD, 0, 1, 0, 1, 0xABCC},
		{"the highest bit", 0x80000000, 31, 1, 0, 1, 0},
		{"the highest bit set", 0x0000ABCD, 31, 1, 1, 0, 0x8000ABCD},
		{"the top four bits", 0xF0000000, 28, 4, 3, 0xF, 0x30000000},
		{"the whole word", 0x89ABCDEF, 0, 32, 0x12345678, 0x89ABCDEF, 0x12345678},
		{"x wider than the field", 0, 8, 4, 0xFFFFFFFF, 0, 0xF00},
		{"no bits", 0xABCD, 4, 0, 0xFFFFFFFF, 0, 0xABCD},
		{"less than no bits", 0xABCD, 4, -1, 0xFFFFFFFF, 0, 0xABCD},
		{"the least n", 0xABCD, 4, math.MinInt, 0xFFFFFFFF, 0, 0xABCD},
		{"the least n, and at below 0", 0xABCD, -1, math.MinInt, 0xFFFFFFFF, 0, 0xABCD},
		{"partly above the word", 0xC0000001, 30, 8, 0xFE, 3, 0x80000001},
		{"wholly above the word", 0xABCD, 32, 4, 0xFFFFFFFF, 0, 0xABCD},
		{"far above the word", 0xABCD, math.MaxInt, math.MaxInt, 0xFFFFFFFF, 0, 0xABCD},
		{"partly below the word", 0xABCD, -4, 8, 0x5A, 0xD0, 0xABC5},
		{"just below the word", 0xABCD, -8, 8, 0xFF, 0, 0xABCD},
		{"one bit of the word", 0xABCC, -8, 9, 0x100, 0, 0xABCD},
		{"over both ends", 0xABCD1234, -4, 40, 0x12345678, 0xBCD12340, 0x01234567},
		{"places that a part has not", 0xFFFFFFFF, -32, 64, 0xFFFFFFFF, 0, 0},
		{"some places that a part has not", 0xFFFFFFFF, -28, 64, 0xFFFFFFFF, 0xF0000000, 0xF},
		{"all that is above", 0xABCD, 8, math.MaxInt, 0xFF, 0xAB, 0xFFCD},
		{"a sum that would go round", 0xABCD, 31, math.MaxInt, 1, 0, 0x8000ABCD},
		{"a difference that would go round", 5, math.MinInt, math.MaxInt, 1, 0, 5},
		{"a difference that just does not reach n", 7, math.MinInt + 1, math.MaxInt, 0, 0, 7},
		{"a difference one below n", 7, math.MinInt + 2, math.MaxInt, 0, 0, 6},
		{"a difference near 2^63", 7, math.MinInt + 3, math.MaxInt, 0xFFFFFFFF, 0, 4},
	} {
		if got := Get(c.w, c.at, c.n); got != c.get {
			t.Errorf("%s: Get(%X, %d, %d) = %X, want %X", c.name, c.w, c.at, c.n, got, c.get)
		}
		if got := Set(c.w, c.at, c.n, c.x); got != c.set {
			t.Errorf("%s: Set(%X, %d, %d, %X) = %X, want %X", c.name, c.w, c.at, c.n, c.x, got, c.set)
		}
	}
}

func TestGetAndSetAreWhatTheDocumentSays(t *testing.T) {
	all := samples(0)
	turn := 0
	for _, at := range edges() {
		for _, n := range edges() {
			// Not each word with each field: the words take turns.
			w, x := all[turn%len(all)], all[turn/len(all)%len(all)]
			turn++
			if got, want := Get(w, at, n), wantGet(w, at, n); got != want {
				t.Fatalf("Get(%X, %d, %d) = %X, want %X", w, at, n, got, want)
			}
			if got, want := Set(w, at, n, x), wantSet(w, at, n, x); got != want {
				t.Fatalf("Set(%X, %d, %d, %X) = %X, want %X", w, at, n, x, got, want)
			}
		}
	}
}

// P2.2

func TestSignedOfNamedNumbers(t *testing.T) {
	for _, c := range []struct {
		name string
		x    uint32
		n    int
		want int
	}{
		{"the document's example", 0xFFFFE, 20, -2},
		{"the greatest of 20 bits", 0x7FFFF, 20, 1<<19 - 1},
		{"the least of 20 bits", 0x80000, 20, -1 << 19},
		{"higher bits do not count", 0xFFF00001, 20, 1},
		{"higher bits do not count below 0", 0x0FFFFFFF, 20, -1},
		{"one bit set", 1, 1, -1},
		{"one bit clear", 0xFFFFFFFE, 1, 0},
		{"the least of 31 bits", 0x40000000, 31, -1 << 30},
		{"the highest bit is not one of 31", 0x80000000, 31, 0},
		{"the greatest of 32 bits", 0x7FFFFFFF, 32, 1<<31 - 1},
		{"the least of 32 bits", 0x80000000, 32, -1 << 31},
		{"0 is as 1", 3, 0, -1},
		{"below 0 is as 1", 2, -7, 0},
		{"the least n is as 1", 1, math.MinInt, -1},
		{"33 is as 32", 0x80000000, 33, -1 << 31},
		{"64 is as 32", 0xFFFFFFFF, 64, -1},
		{"the greatest n is as 32", 0x7FFFFFFF, math.MaxInt, 1<<31 - 1},
	} {
		if got := Signed(c.x, c.n); got != c.want {
			t.Errorf("%s: Signed(%X, %d) = %d, want %d", c.name, c.x, c.n, got, c.want)
		}
	}
}

// wantBits is n as P2.2 takes it.
func wantBits(n int) int {
	if n < 1 {
		return 1
	}
	if n > 32 {
		return 32
	}
	return n
}

func TestSignedIsWhatTheDocumentSays(t *testing.T) {
	for _, n := range edges() {
		whole := 1
		for range wantBits(n) {
			whole *= 2
		}
		for _, x := range samples(100) {
			want := int(x) % whole
			if want >= whole/2 {
				want -= whole
			}
			if got := Signed(x, n); got != want {
				t.Fatalf("Signed(%X, %d) = %d, want %d", x, n, got, want)
			}
		}
	}
}

func TestFitsAtTheEnds(t *testing.T) {
	for _, n := range edges() {
		half := 1
		for range wantBits(n) - 1 {
			half *= 2
		}
		for _, c := range []struct {
			v    int
			want bool
		}{
			{-half, true}, {-half - 1, false}, {half - 1, true}, {half, false},
			{0, true}, {-1, true}, {1, half > 1},
			{math.MinInt, false}, {math.MaxInt, false}, {1 << 32, false}, {-1 << 32, false}, {1 << 40, false},
		} {
			if got := Fits(c.v, n); got != c.want {
				t.Errorf("Fits(%d, %d) = %v, want %v", c.v, n, got, c.want)
			}
		}
	}
}

func TestFitsOfNamedNumbers(t *testing.T) {
	for _, c := range []struct {
		v, n int
		want bool
	}{
		{-1 << 19, 20, true}, {-1<<19 - 1, 20, false}, {1<<19 - 1, 20, true}, {1 << 19, 20, false},
		{-2, 1, false}, {-1, 1, true}, {0, 1, true}, {1, 1, false},
		{-1, 0, true}, {1, 0, false}, {-2, -5, false}, {0, math.MinInt, true}, {1, math.MinInt, false},
		{1<<31 - 1, 32, true}, {1 << 31, 32, false}, {-1 << 31, 32, true}, {-1<<31 - 1, 32, false},
		{1 << 31, 33, false}, {1<<31 - 1, math.MaxInt, true}, {-1<<31 - 1, 64, false},
	} {
		if got := Fits(c.v, c.n); got != c.want {
			t.Errorf("Fits(%d, %d) = %v, want %v", c.v, c.n, got, c.want)
		}
	}
}

func TestFitsJustWhatSignedKeeps(t *testing.T) {
	for _, n := range edges() {
		for _, x := range samples(100) {
			v := Signed(x, 32)
			if got, want := Fits(v, n), Signed(x, n) == v; got != want {
				t.Fatalf("Fits(%d, %d) = %v, though Signed keeps it: %v", v, n, got, want)
			}
			if !Fits(Signed(x, n), n) {
				t.Fatalf("Signed(%X, %d) does not fit %d bits", x, n, n)
			}
		}
	}
}

// P2.3

func TestWhatWasSetIsGot(t *testing.T) {
	all := samples(10)
	for at := range 32 {
		for n := 1; at+n <= 32; n++ {
			for _, w := range all {
				for _, x := range all {
					if got, want := Get(Set(w, at, n, x), at, n), x&uint32(1<<n-1); got != want {
						t.Fatalf("Get of Set(%X, %d, %d, %X) = %X, want %X", w, at, n, x, got, want)
					}
				}
			}
		}
	}
}

func TestNothingElseIsChanged(t *testing.T) {
	all := samples(10)
	for _, at := range edges() {
		for _, n := range edges() {
			var field uint32
			for i := range 32 {
				if _, in := placeOf(i, at, n); in {
					field |= 1 << i
				}
			}
			for i, w := range all {
				x := all[len(all)-1-i]
				set := Set(w, at, n, x)
				if set&^field != w&^field {
					t.Fatalf("Set(%X, %d, %d, %X) = %X: more than the bits %X changed", w, at, n, x, set, field)
				}
				if got, want := Get(set, at, n), Get(Set(0, at, n, x), at, n); got != want {
					t.Fatalf("Get of Set(%X, %d, %d, %X) = %X, want %X: it hangs on w", w, at, n, x, got, want)
				}
			}
		}
	}
}

func TestWhatIsSetAgainStays(t *testing.T) {
	for at := range 32 {
		for n := range 40 {
			for _, w := range samples(10) {
				if got := Set(w, at, n, Get(w, at, n)); got != w {
					t.Fatalf("Set of Get(%X, %d, %d) = %X", w, at, n, got)
				}
			}
		}
	}
}

// Package word is layer 1: numbers of 32 bits: see shared/doc/01-word.md.
package word

import "math"

// Add tells the sum of a, b and the carry; c whether it leaves the word, v whether it leaves the signed numbers.
func Add(a, b uint32, carry bool) (r uint32, c, v bool) {
	one := unit(carry)
	plain := int64(a) + int64(b) + one
	return uint32(plain), plain > math.MaxUint32, !isSigned(signed(a) + signed(b) + one)
}

// Sub tells a less b and the borrow; c whether it is below 0, v whether it leaves the signed numbers.
func Sub(a, b uint32, borrow bool) (r uint32, c, v bool) {
	one := unit(borrow)
	plain := int64(a) - int64(b) - one
	return uint32(plain), plain < 0, !isSigned(signed(a) - signed(b) - one)
}

// The kinds of shifts.
const (
	left  = 1
	right = 2
	round = 3
)

// Shift shifts a by n modulo 32 places, as its kind says; a kind that there is not leaves a as it is.
func Shift(kind int, a, n uint32) uint32 {
	n %= 32
	switch kind {
	case left:
		return a << n
	case right:
		return uint32(int32(a) >> n)
	case round:
		// With n 0 the left part is shifted by 32, which Go makes 0: a stays whole.
		return a>>n | a<<(32-n)
	}
	return a
}

// Mul tells the halves of the product.
func Mul(a, b uint32, unsigned bool) (low, high uint32) {
	product := uint64(a) * uint64(b)
	if !unsigned {
		product = uint64(signed(a) * signed(b))
	}
	return uint32(product), uint32(product >> 32)
}

// Div divides signed numbers, rounding down; it tells false if b is not above 0.
func Div(a, b uint32) (q, r uint32, ok bool) {
	x, y := signed(a), signed(b)
	if y <= 0 {
		return 0, 0, false
	}
	quotient, rest := x/y, x%y
	// Go rounds towards 0: below 0 the quotient is one too great, unless nothing is left.
	if rest < 0 {
		quotient, rest = quotient-1, rest+y
	}
	return uint32(quotient), uint32(rest), true
}

// signed is wider than a word, so that sums, differences and products of two of them are exact.
func signed(a uint32) int64 { return int64(int32(a)) }

func isSigned(x int64) bool { return math.MinInt32 <= x && x <= math.MaxInt32 }

func unit(set bool) int64 {
	if set {
		return 1
	}
	return 0
}

package fraction

import (
	"math"
	"math/bits"
)

// divide returns the quotient, rounded down, and the remainder of x and y, where y is not 0.
func divide(x, y whole) (quotient, rest whole) {
	if compare(x, y) < 0 {
		return nil, x
	}
	if len(y) == 1 {
		quotient, w := divideWord(x, y[0])
		return quotient, single(w)
	}
	// With the highest bit of the divisor set, a digit that is estimated from its first word is at most 2 too great.
	shift := bits.LeadingZeros64(y[len(y)-1])
	divisor := trim(shiftUp(y, shift))
	left := shiftUp(x, shift)
	n := len(divisor)
	quotient = make(whole, len(left)-n)
	for i := len(quotient) - 1; i >= 0; i-- {
		quotient[i] = takeDigit(left[i:i+n+1], divisor)
	}
	return trim(quotient), shiftDown(left[:n], shift)
}

// takeDigit divides left by the divisor, which is one word shorter; the quotient is one word. It leaves the remainder in left.
func takeDigit(left, divisor whole) uint64 {
	n := len(divisor)
	digit := uint64(math.MaxUint64)
	if left[n] < divisor[n-1] { // otherwise the quotient of the first words would be more than one word
		digit, _ = bits.Div64(left[n], left[n-1], divisor[n-1])
	}
	borrowed := takeTimes(left[:n], divisor, digit)
	missing := uint64(0)
	left[n], missing = bits.Sub64(left[n], borrowed, 0)
	for missing != 0 { // the digit was too great
		digit--
		missing -= addTo(left, divisor)
	}
	return digit
}

// divideWord returns the quotient, rounded down, and the remainder of x and w, where w is not 0.
func divideWord(x whole, w uint64) (whole, uint64) {
	quotient := make(whole, len(x))
	var rest uint64
	for i := len(x) - 1; i >= 0; i-- {
		quotient[i], rest = bits.Div64(rest, x[i], w)
	}
	return trim(quotient), rest
}

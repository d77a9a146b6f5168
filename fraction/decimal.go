package fraction

import "slices"

// A chunk is the greatest power of ten that fits into a word.
const (
	chunk       = 10000000000000000000
	chunkDigits = 19
)

// decimal returns the decimal digits of x without leading zeros.
func decimal(x whole) string {
	if len(x) == 0 {
		return "0"
	}
	var digits []byte // the least significant one first
	for len(x) > 0 {
		var w uint64
		x, w = divideWord(x, chunk)
		for range chunkDigits {
			digits = append(digits, '0'+byte(w%10))
			w /= 10
		}
	}
	for digits[len(digits)-1] == '0' {
		digits = digits[:len(digits)-1]
	}
	slices.Reverse(digits)
	return string(digits)
}

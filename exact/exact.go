// Package exact is layer 1: rational numbers of bounded size, spans of integers, and predicates of plane geometry (chapter doc/01-exact.md).
package exact

import (
	"lidar/api"
	"lidar/fraction"
)

// Canon returns the canonical value of x.
func Canon(x api.Rat) (api.Rat, api.Errno) {
	if anyLarge(x) {
		return api.Rat{}, api.ErrSize
	}
	return bounded(fraction.FromRat(x))
}

// FromInt returns n as a number.
func FromInt(n int) api.Rat {
	return fraction.FromInt(n).Rat()
}

// Ratio returns a / b.
func Ratio(a, b int) (api.Rat, api.Errno) {
	return divided(fraction.FromInt(a), fraction.FromInt(b))
}

// Sign returns -1, 0 or 1.
func Sign(x api.Rat) (int, api.Errno) {
	if anyLarge(x) {
		return 0, api.ErrSize
	}
	return fraction.FromRat(x).Sign(), api.OK
}

// Cmp returns -1 if x is less than y, 0 if they are equal, and 1 if x is greater.
func Cmp(x, y api.Rat) (int, api.Errno) {
	if anyLarge(x, y) {
		return 0, api.ErrSize
	}
	return fraction.FromRat(x).Cmp(fraction.FromRat(y)), api.OK
}

// Neg returns -x.
func Neg(x api.Rat) (api.Rat, api.Errno) {
	if anyLarge(x) {
		return api.Rat{}, api.ErrSize
	}
	return bounded(fraction.FromRat(x).Neg())
}

// Add returns x + y.
func Add(x, y api.Rat) (api.Rat, api.Errno) {
	return combined(x, y, fraction.Fraction.Add)
}

// Sub returns x - y.
func Sub(x, y api.Rat) (api.Rat, api.Errno) {
	return combined(x, y, fraction.Fraction.Sub)
}

// Mul returns x * y.
func Mul(x, y api.Rat) (api.Rat, api.Errno) {
	return combined(x, y, fraction.Fraction.Mul)
}

// Div returns x / y.
func Div(x, y api.Rat) (api.Rat, api.Errno) {
	if anyLarge(x, y) {
		return api.Rat{}, api.ErrSize
	}
	return divided(fraction.FromRat(x), fraction.FromRat(y))
}

// Floor returns the greatest integer that is not greater than x.
func Floor(x api.Rat) (int, api.Errno) {
	if anyLarge(x) {
		return 0, api.ErrSize
	}
	return end(fraction.FromRat(x).Floor())
}

// Ceil returns the least integer that is not less than x.
func Ceil(x api.Rat) (int, api.Errno) {
	if anyLarge(x) {
		return 0, api.ErrSize
	}
	return end(fraction.FromRat(x).Ceil())
}

// Text returns x in decimal digits, with the denominator behind a slash if it is not 1.
func Text(x api.Rat) (string, api.Errno) {
	if anyLarge(x) {
		return "", api.ErrSize
	}
	return fraction.FromRat(x).Text(), api.OK
}

// Root returns the greatest integer whose square is not greater than n.
func Root(n int) (int, api.Errno) {
	if n < 0 {
		return 0, api.ErrArg
	}
	root := uint64(0)
	for bit := uint64(1) << 31; bit > 0; bit /= 2 {
		if next := root + bit; next*next <= uint64(n) {
			root = next
		}
	}
	return int(root), api.OK
}

// anyLarge reports whether one of the numbers is large. A canonical value never has more words than another value of its number, so it is enough to look at the values as they are given.
func anyLarge(numbers ...api.Rat) bool {
	for _, x := range numbers {
		if fraction.Words(x.Num) > api.MaxWords || fraction.Words(x.Den) > api.MaxWords {
			return true
		}
	}
	return false
}

func combined(x, y api.Rat, operation func(x, y fraction.Fraction) fraction.Fraction) (api.Rat, api.Errno) {
	if anyLarge(x, y) {
		return api.Rat{}, api.ErrSize
	}
	return bounded(operation(fraction.FromRat(x), fraction.FromRat(y)))
}

// bounded returns the number x, if it is not large.
func bounded(x fraction.Fraction) (api.Rat, api.Errno) {
	number := x.Rat()
	if anyLarge(number) {
		return api.Rat{}, api.ErrSize
	}
	return number, api.OK
}

func divided(x, y fraction.Fraction) (api.Rat, api.Errno) {
	quotient, ok := x.Div(y)
	if !ok {
		return api.Rat{}, api.ErrZero
	}
	return bounded(quotient)
}

// end returns an integer as an int, if it may be an end of a span.
func end(x fraction.Fraction) (int, api.Errno) {
	n, ok := x.Int()
	if !ok || n < -api.MaxNum || n > api.MaxNum {
		return 0, api.ErrRange
	}
	return n, api.OK
}

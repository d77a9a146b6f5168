package exact

import (
	"math/bits"

	"lidar/api"
	"lidar/fraction"
)

// Valid reports whether a span is valid.
func Valid(a api.Span) bool {
	return -api.MaxNum <= a.Lo && a.Lo <= a.Hi && a.Hi <= api.MaxNum
}

// Cover returns the least span that contains x and y.
func Cover(x, y api.Rat) (api.Span, api.Errno) {
	if anyLarge(x, y) {
		return api.Span{}, api.ErrSize
	}
	low, high := fraction.FromRat(x), fraction.FromRat(y)
	if low.Cmp(high) > 0 {
		low, high = high, low
	}
	lo, err := end(low.Floor())
	if err != api.OK {
		return api.Span{}, err
	}
	hi, err := end(high.Ceil())
	if err != api.OK {
		return api.Span{}, err
	}
	return api.Span{Lo: lo, Hi: hi}, api.OK
}

// Plus returns the least span that contains all sums.
func Plus(a, b api.Span) (api.Span, api.Errno) {
	if !bothValid(a, b) {
		return api.Span{}, api.ErrArg
	}
	return inRange(a.Lo+b.Lo, a.Hi+b.Hi)
}

// Minus returns the least span that contains all differences.
func Minus(a, b api.Span) (api.Span, api.Errno) {
	if !bothValid(a, b) {
		return api.Span{}, api.ErrArg
	}
	return inRange(a.Lo-b.Hi, a.Hi-b.Lo)
}

// Times returns the least span that contains all products.
func Times(a, b api.Span) (api.Span, api.Errno) {
	if !bothValid(a, b) {
		return api.Span{}, api.ErrArg
	}
	p, q := product(a.Lo, b.Lo), product(a.Lo, b.Hi)
	r, s := product(a.Hi, b.Lo), product(a.Hi, b.Hi)
	return inRange(min(p, q, r, s), max(p, q, r, s))
}

// Over returns the least span that contains all quotients by n.
func Over(a api.Span, n int) (api.Span, api.Errno) {
	if !Valid(a) || n < 1 {
		return api.Span{}, api.ErrArg
	}
	return api.Span{Lo: floorOver(a.Lo, n), Hi: -floorOver(-a.Hi, n)}, api.OK
}

// Hull returns the least span that contains both spans.
func Hull(a, b api.Span) (api.Span, api.Errno) {
	if !bothValid(a, b) {
		return api.Span{}, api.ErrArg
	}
	return api.Span{Lo: min(a.Lo, b.Lo), Hi: max(a.Hi, b.Hi)}, api.OK
}

// Meet returns the span that both spans have in common, and whether there is one.
func Meet(a, b api.Span) (api.Span, bool, api.Errno) {
	if !bothValid(a, b) {
		return api.Span{}, false, api.ErrArg
	}
	both := api.Span{Lo: max(a.Lo, b.Lo), Hi: min(a.Hi, b.Hi)}
	if both.Lo > both.Hi {
		return api.Span{}, false, api.OK
	}
	return both, true, api.OK
}

// Gap returns the distance between the nearest numbers of both spans.
func Gap(a, b api.Span) (int, api.Errno) {
	if !bothValid(a, b) {
		return 0, api.ErrArg
	}
	return max(0, a.Lo-b.Hi, b.Lo-a.Hi), api.OK
}

func bothValid(a, b api.Span) bool {
	return Valid(a) && Valid(b)
}

// inRange returns the span from lo to hi, where lo is not greater than hi, if it is valid.
func inRange(lo, hi int) (api.Span, api.Errno) {
	s := api.Span{Lo: lo, Hi: hi}
	if !Valid(s) {
		return api.Span{}, api.ErrRange
	}
	return s, api.OK
}

// product returns x * y, or a number on the same side beyond MaxNum if the product is beyond it.
func product(x, y int) int {
	hi, lo := bits.Mul64(magnitude(x), magnitude(y))
	if hi > 0 || lo > api.MaxNum {
		lo = api.MaxNum + 1
	}
	return sign(x) * sign(y) * int(lo)
}

func magnitude(x int) uint64 {
	if x < 0 {
		return -uint64(x)
	}
	return uint64(x)
}

// floorOver returns x / n, rounded down, where n is at least 1.
func floorOver(x, n int) int {
	if x%n < 0 {
		return x/n - 1
	}
	return x / n
}

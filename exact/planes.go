package exact

import (
	"math/bits"

	"lidar/api"
)

// Turn returns 1 if c lies to the left of the directed line from a to b, -1 if it lies to the right, and 0 if it lies on the line.
func Turn(a, b, c api.XY) (int, api.Errno) {
	if !allPlaces(a, b, c) {
		return 0, api.ErrPlace
	}
	return sign(cross(from(a, b), from(a, c))), api.OK
}

// Circle returns 1 if d lies inside the circle through a, b and c, 0 if it lies on it, and -1 if it lies outside.
func Circle(a, b, c, d api.XY) (int, api.Errno) {
	if !allPlaces(a, b, c, d) {
		return 0, api.ErrPlace
	}
	turn := sign(cross(from(a, b), from(a, c)))
	if turn == 0 {
		return 0, api.ErrFlat
	}
	p, q, r := from(d, a), from(d, b), from(d, c)
	var sum wide // positive if d lies inside of a, b and c in counterclockwise order
	sum.add(square(p), cross(q, r))
	sum.add(square(q), cross(r, p))
	sum.add(square(r), cross(p, q))
	return turn * sum.sign(), api.OK
}

func allPlaces(places ...api.XY) bool {
	for _, p := range places {
		if p.X < -api.MaxCoord || p.X > api.MaxCoord || p.Y < -api.MaxCoord || p.Y > api.MaxCoord {
			return false
		}
	}
	return true
}

// from returns the vector from a place to another one. Its elements are at most 2^29, so cross and square are at most 2^59.
func from(a, b api.XY) api.XY {
	return api.XY{X: b.X - a.X, Y: b.Y - a.Y}
}

func cross(p, q api.XY) int {
	return p.X*q.Y - p.Y*q.X
}

func square(p api.XY) int {
	return p.X*p.X + p.Y*p.Y
}

// wide is an integer of 128 bits, in two's complement.
type wide struct {
	hi, lo uint64
}

// add adds x * y, where x is not negative.
func (w *wide) add(x, y int) {
	hi, lo := bits.Mul64(uint64(x), uint64(y))
	if y < 0 { // taken as unsigned, y is 2^64 too great
		hi -= uint64(x)
	}
	var carry uint64
	w.lo, carry = bits.Add64(w.lo, lo, 0)
	w.hi, _ = bits.Add64(w.hi, hi, carry)
}

func (w *wide) sign() int {
	if w.hi == 0 && w.lo > 0 {
		return 1
	}
	return sign(int64(w.hi))
}

// sign returns -1, 0 or 1.
func sign[N int | int64](n N) int {
	switch {
	case n < 0:
		return -1
	case n > 0:
		return 1
	}
	return 0
}

package strip

import "lidar/api"

// Facet returns the normal of the plane through three points.
func Facet(a, b, c [3]int) ([3]int, api.Errno) {
	if !arePoints(a, b, c) {
		return [3]int{}, api.ErrArg
	}
	u, v := from(a, b), from(a, c)
	normal := [3]int{u[1]*v[2] - u[2]*v[1], u[2]*v[0] - u[0]*v[2], u[0]*v[1] - u[1]*v[0]}
	if normal == [3]int{} {
		return [3]int{}, api.ErrPlane
	}
	divisor := signedDivisor(normal)
	for k := range normal {
		normal[k] /= divisor
	}
	return normal, api.OK
}

func arePoints(points ...[3]int) bool {
	for _, p := range points {
		if !within(-api.MaxCoord, api.MaxCoord, p[:]...) {
			return false
		}
	}
	return true
}

// from returns the vector from a to b.
func from(a, b [3]int) [3]int {
	return [3]int{b[0] - a[0], b[1] - a[1], b[2] - a[2]}
}

// signedDivisor returns the greatest common divisor of the elements, with the sign of the last one that is not 0.
func signedDivisor(v [3]int) int {
	divisor, sign := 0, 1
	for _, x := range v {
		if x != 0 {
			sign = 1
		}
		if x < 0 {
			x, sign = -x, -1
		}
		for x != 0 {
			divisor, x = x, divisor%x
		}
	}
	return sign * divisor
}

// Tie returns the match of a strip, in which three points span a plane, with another one, in which the point q lies on it.
func Tie(strip, other int, a, b, c, q [3]int, weight int) (api.Match, api.Errno) {
	if !arePoints(a, b, c, q) || !canTie(strip, other, api.MaxStrips) || !within(1, api.MaxWeight, weight) {
		return api.Match{}, api.ErrArg
	}
	normal, err := Facet(a, b, c)
	if err != api.OK {
		return api.Match{}, err
	}
	normal = shortened(normal)
	return api.Match{A: strip, B: other, Normal: normal, D: product(normal, from(q, a)), W: weight}, api.OK
}

// shortened returns a normal, divided by a power of 2 until it is short. As long as it is not, one element is far from 0, so it is not 0 afterwards.
func shortened(normal [3]int) [3]int {
	for !isShort(normal) {
		for k := range normal {
			normal[k] >>= 1
		}
	}
	return normal
}

// product returns the scalar product of two vectors.
func product(u, v [3]int) int {
	return u[0]*v[0] + u[1]*v[1] + u[2]*v[2]
}

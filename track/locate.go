package track

import (
	"lidar/api"
	"lidar/exact"
)

// maxPoseTilt is the greatest Tilt of a pose from which points are located.
const maxPoseTilt = 1 << 31

// Product returns Hamilton's product of two quaternions.
func Product(p, q [4]int) ([4]int, api.Errno) {
	if !within(-api.MaxQuat, api.MaxQuat, p[:]...) || !within(-api.MaxQuat, api.MaxQuat, q[:]...) {
		return [4]int{}, api.ErrTurn
	}
	return times(p, q), api.OK
}

// times returns Hamilton's product.
func times(p, q [4]int) [4]int {
	return [4]int{
		p[0]*q[0] - p[1]*q[1] - p[2]*q[2] - p[3]*q[3],
		p[0]*q[1] + p[1]*q[0] + p[2]*q[3] - p[3]*q[2],
		p[0]*q[2] - p[1]*q[3] + p[2]*q[0] + p[3]*q[1],
		p[0]*q[3] + p[1]*q[2] - p[2]*q[1] + p[3]*q[0],
	}
}

// Beam returns the direction to which a rotation takes (0, 0, -1), as numerators with one denominator.
func Beam(q [4]int) ([3]int, int, api.Errno) {
	if !isTurn(q, api.MaxTurn) {
		return [3]int{}, 0, api.ErrTurn
	}
	inverse := [4]int{q[0], -q[1], -q[2], -q[3]}
	down := [4]int{0, 0, 0, -1}
	v := times(times(q, down), inverse)
	n := times(q, inverse)[0]
	return [3]int{v[1], v[2], v[3]}, n, api.OK
}

// Locate returns the box of a point at a range r from a pose, in the direction of the beam.
func Locate(p api.Pose, scan [4]int, r api.Span) (api.Box, api.Errno) {
	if !validPose(p) || !isPart(r, 0, api.MaxRange) {
		return api.Box{}, api.ErrArg
	}
	if !isTurn(p.Quat, api.MaxQuat) || !isTurn(scan, api.MaxQuat) {
		return api.Box{}, api.ErrTurn
	}
	// No errors from here on: both factors are rotations, so their product is one.
	turn, _ := Product(p.Quat, scan)
	numerators, n, _ := Beam(turn)
	var spans [3]api.Span
	for i, k := range numerators {
		straight, _ := exact.Plus(p.Pos[i], along(k, n, r))
		spans[i] = around(straight, perMillion(p.Tilt, r.Hi))
		if !isPart(spans[i], -api.MaxCoord, api.MaxCoord) {
			return api.Box{}, api.ErrRange
		}
	}
	return api.Box{X: spans[0], Y: spans[1], Z: spans[2]}, api.OK
}

// validPose reports whether points may be located from where a pose is; it does not look at Quat.
func validPose(p api.Pose) bool {
	for _, s := range p.Pos {
		if !isPart(s, -api.MaxCoord, api.MaxCoord) {
			return false
		}
	}
	return within(0, maxPoseTilt, p.Tilt)
}

// along returns the least span that contains all k * s / n with s in r, where k is at most n. The products may not fit into an int, but these numbers are small.
func along(k, n int, r api.Span) api.Span {
	direction, _ := exact.Ratio(k, n)
	first, _ := exact.Mul(direction, exact.FromInt(r.Lo))
	last, _ := exact.Mul(direction, exact.FromInt(r.Hi))
	s, _ := exact.Cover(first, last)
	return s
}

// Inside reports whether a box is valid and lies inside of another one.
func Inside(a, b api.Box) bool {
	return isPart(a.X, b.X.Lo, b.X.Hi) && isPart(a.Y, b.Y.Lo, b.Y.Hi) && isPart(a.Z, b.Z.Lo, b.Z.Hi)
}

// Holds reports whether a point lies in a box.
func Holds(a api.Box, x, y, z int) bool {
	return within(a.X.Lo, a.X.Hi, x) && within(a.Y.Lo, a.Y.Hi, y) && within(a.Z.Lo, a.Z.Hi, z)
}

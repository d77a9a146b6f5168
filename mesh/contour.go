package mesh

import (
	"slices"

	"lidar/api"
	"lidar/exact"
)

// surface returns the heights of the high surface or of the low one.
func surface(high bool) func(corner) int {
	if high {
		return corner.high
	}
	return corner.low
}

// contour follows the contour lines of one level.
type contour struct {
	*net
	above func(i int) bool // whether a vertex lies above the level
}

func newContour(n *net, v []api.Vertex, level int, z func(corner) int) contour {
	return contour{n, func(i int) bool { return z(corner(v[i])) > level }}
}

// crosses reports whether a line runs between the ends of a side.
func (c contour) crosses(s side) bool {
	return c.above(s[0]) != c.above(s[1])
}

// follow returns the sides after the first one, in the direction to the left of this, and whether the line comes back to it.
func (c contour) follow(first side) (list []side, closed bool) {
	for s := first; ; {
		p, ok := c.corner[s]
		if !ok {
			return list, false
		}
		if c.above(p) == c.above(s[0]) {
			s[0] = p
		} else {
			s[1] = p
		}
		if s == first {
			return list, true
		}
		list = append(list, upward(s))
	}
}

// curve returns the curve through the side s, which is the least one of it if the curve is closed.
func (c contour) curve(s side) api.Curve {
	after, closed := c.follow(s)
	if closed {
		if compareSides(after[len(after)-1], after[0]) < 0 {
			slices.Reverse(after)
		}
		return api.Curve{Closed: true, Sides: slices.Concat([]side{s}, after)}
	}
	list, _ := c.follow(back(s))
	slices.Reverse(list)
	list = slices.Concat(list, []side{s}, after)
	if compareSides(list[len(list)-1], list[0]) < 0 {
		slices.Reverse(list)
	}
	return api.Curve{Sides: list}
}

// Contours returns all curves of a level on the low surface, or on the high one.
func Contours(m api.Mesh, level int, high bool) ([]api.Curve, api.Errno) {
	n, err := read(m)
	if err != api.OK {
		return nil, err
	}
	if !within(level) {
		return nil, api.ErrArg
	}
	c := newContour(n, m.V, level, surface(high))
	var curves []api.Curve
	seen := map[side]bool{}
	for _, s := range n.sides() {
		if seen[s] || !c.crosses(s) {
			continue
		}
		curve := c.curve(s)
		for _, t := range curve.Sides {
			seen[t] = true
		}
		curves = append(curves, curve)
	}
	slices.SortFunc(curves, func(a, b api.Curve) int { return compareSides(a.Sides[0], b.Sides[0]) })
	return curves, api.OK
}

// Crossing returns the place at which the contour line of a level crosses a side.
func Crossing(m api.Mesh, side [2]int, level int, high bool) (x, y api.Rat, err api.Errno) {
	n, err := read(m)
	if err != api.OK {
		return api.Rat{}, api.Rat{}, err
	}
	if !within(level) {
		return api.Rat{}, api.Rat{}, api.ErrArg
	}
	z := surface(high)
	if side[0] > side[1] || !n.has(side) || !newContour(n, m.V, level, z).crosses(side) {
		return api.Rat{}, api.Rat{}, api.ErrLine
	}
	p, q := corner(m.V[side[0]]), corner(m.V[side[1]])
	part, whole := 2*(level-z(p))+1, 2*(z(q)-z(p)) // of the way from p to q; the sums below are at most 2^60
	x, _ = exact.Ratio(p.X*whole+part*(q.X-p.X), whole)
	y, _ = exact.Ratio(p.Y*whole+part*(q.Y-p.Y), whole)
	return x, y, api.OK
}

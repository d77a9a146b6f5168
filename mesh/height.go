package mesh

import (
	"slices"

	"lidar/api"
	"lidar/exact"
	"lidar/fraction"
)

// corner is a vertex as the corner of a triangle; its methods are the heights of both surfaces.
type corner api.Vertex

func (c corner) low() int {
	return c.Z.Lo
}

func (c corner) high() int {
	return c.Z.Hi
}

func (c corner) at() api.XY {
	return placeOf(api.Vertex(c))
}

// triangle has its corners in counterclockwise order.
type triangle [3]corner

func triangleOf(m api.Mesh, t [3]int) triangle {
	return triangle{corner(m.V[t[0]]), corner(m.V[t[1]]), corner(m.V[t[2]])}
}

// area returns twice the area of the triangle a, b, c, negative if it turns clockwise. For valid places it is at most 2^59.
func area(a, b, c api.XY) int {
	return (b.X-a.X)*(c.Y-a.Y) - (b.Y-a.Y)*(c.X-a.X)
}

// area returns twice the area.
func (t triangle) area() int {
	return area(t[0].at(), t[1].at(), t[2].at())
}

// shares returns twice the area of the triangle of each corner's opposite side and a place, negative if the place lies beyond this side.
func (t triangle) shares(p api.XY) [3]int {
	a, b, c := t[0].at(), t[1].at(), t[2].at()
	return [3]int{area(b, c, p), area(c, a, p), area(a, b, p)}
}

func (t triangle) contains(p api.XY) bool {
	list := t.shares(p)
	return slices.Min(list[:]) >= 0
}

// height returns the height over a place, which need not lie in the triangle, of the plane through the corners.
func (t triangle) height(p api.XY, z func(corner) int) fraction.Fraction {
	var sum fraction.Fraction
	for i, share := range t.shares(p) {
		sum = sum.Add(fraction.FromInt(share).Mul(fraction.FromInt(z(t[i]))))
	}
	height, _ := sum.Div(fraction.FromInt(t.area()))
	return height
}

// Find returns the index of the first triangle in which a place lies.
func Find(m api.Mesh, at api.XY) (int, api.Errno) {
	if err := Check(m); err != api.OK {
		return 0, err
	}
	if !within(at.X, at.Y) {
		return 0, api.ErrPlace
	}
	i := slices.IndexFunc(m.T, func(t [3]int) bool { return triangleOf(m, t).contains(at) })
	if i < 0 {
		return 0, api.ErrOutside
	}
	return i, api.OK
}

// Height returns the heights of the low and of the high surface at a place.
func Height(m api.Mesh, at api.XY) (lo, hi api.Rat, err api.Errno) {
	i, err := Find(m, at)
	if err != api.OK {
		return api.Rat{}, api.Rat{}, err
	}
	t := triangleOf(m, m.T[i])
	return t.height(at, corner.low).Rat(), t.height(at, corner.high).Rat(), api.OK
}

// Bounds returns the least span that contains the heights of both surfaces at a place.
func Bounds(m api.Mesh, at api.XY) (api.Span, api.Errno) {
	lo, hi, err := Height(m, at)
	if err != api.OK {
		return api.Span{}, err
	}
	return exact.Cover(lo, hi)
}

// Area returns twice the area of all triangles.
func Area(m api.Mesh) (int, api.Errno) {
	if err := Check(m); err != api.OK {
		return 0, err
	}
	sum := 0
	for _, t := range m.T {
		sum += triangleOf(m, t).area()
	}
	return sum, api.OK
}

// Volume returns six times the volumes between both surfaces and the height base.
func Volume(m api.Mesh, base int) (lo, hi api.Rat, err api.Errno) {
	if err := Check(m); err != api.OK {
		return api.Rat{}, api.Rat{}, err
	}
	if !within(base) {
		return api.Rat{}, api.Rat{}, api.ErrArg
	}
	return volume(m, base, corner.low), volume(m, base, corner.high), api.OK
}

func volume(m api.Mesh, base int, z func(corner) int) api.Rat {
	var sum fraction.Fraction
	for _, indexes := range m.T {
		t := triangleOf(m, indexes)
		over := z(t[0]) + z(t[1]) + z(t[2]) - 3*base
		sum = sum.Add(fraction.FromInt(t.area()).Mul(fraction.FromInt(over)))
	}
	return sum.Rat()
}

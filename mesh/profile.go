package mesh

import (
	"cmp"
	"slices"

	"lidar/api"
	"lidar/fraction"
)

// outside is the triangle of a place that lies in none.
const outside = -1

// visit says that a segment reaches a place at this part of its length, and with it a triangle.
type visit struct {
	at       fraction.Fraction
	triangle int
}

// path is a segment.
type path struct {
	from, to api.XY
}

// part returns a / b, where b is not 0.
func part(a, b int) fraction.Fraction {
	x, _ := fraction.FromInt(a).Div(fraction.FromInt(b))
	return x
}

// through returns where the segment enters and leaves a triangle, its sides included, and whether it reaches it.
func (s path) through(t triangle) (in, out fraction.Fraction, ok bool) {
	out = fraction.FromInt(1)
	ends := t.shares(s.to)
	for i, a := range t.shares(s.from) {
		b := ends[i]
		switch {
		case a < 0 && b < 0:
			return in, out, false
		case a < 0:
			if x := part(a, a-b); x.Cmp(in) > 0 {
				in = x
			}
		case b < 0:
			if x := part(a, a-b); x.Cmp(out) < 0 {
				out = x
			}
		}
	}
	return in, out, in.Cmp(out) <= 0
}

// visits returns all parts of the length at which there is a stop, in ascending order.
func (s path) visits(m api.Mesh) []visit {
	list := []visit{{fraction.FromInt(0), outside}, {fraction.FromInt(1), outside}}
	dx, dy := s.to.X-s.from.X, s.to.Y-s.from.Y
	for _, v := range m.V { // they count even if there are no triangles
		along := dx*(v.X-s.from.X) + dy*(v.Y-s.from.Y)
		if length := dx*dx + dy*dy; 0 < along && along < length && area(s.from, s.to, placeOf(v)) == 0 {
			list = append(list, visit{part(along, length), outside})
		}
	}
	for i, t := range m.T {
		if in, out, ok := s.through(triangleOf(m, t)); ok {
			list = append(list, visit{in, i}, visit{out, i})
		}
	}
	slices.SortFunc(list, func(a, b visit) int {
		return cmp.Or(a.at.Cmp(b.at), cmp.Compare(b.triangle, a.triangle))
	})
	return slices.CompactFunc(list, func(a, b visit) bool { return a.at.Cmp(b.at) == 0 })
}

// height returns the height of a triangle's plane over a part of the length.
func (s path) height(t triangle, at fraction.Fraction, z func(corner) int) api.Rat {
	from, to := t.height(s.from, z), t.height(s.to, z)
	return from.Add(at.Mul(to.Sub(from))).Rat()
}

// Profile returns the stops along the segment from one place to another one.
func Profile(m api.Mesh, from, to api.XY) ([]api.Stop, api.Errno) {
	if err := Check(m); err != api.OK {
		return nil, err
	}
	if !within(from.X, from.Y, to.X, to.Y) {
		return nil, api.ErrPlace
	}
	if from == to {
		return nil, api.ErrArg
	}
	s := path{from, to}
	var stops []api.Stop
	for _, v := range s.visits(m) {
		stop := api.Stop{At: v.at.Rat()}
		if v.triangle != outside {
			t := triangleOf(m, m.T[v.triangle])
			stop.In, stop.Lo, stop.Hi = true, s.height(t, v.at, corner.low), s.height(t, v.at, corner.high)
		}
		stops = append(stops, stop)
	}
	return stops, api.OK
}

package mesh

import (
	"cmp"
	"slices"

	"lidar/api"
	"lidar/exact"
)

// placesOf returns the places of vertices, if there are not too many and all are valid.
func placesOf(v []api.Vertex) ([]api.XY, api.Errno) {
	if len(v) > api.MaxVertices {
		return nil, api.ErrArg
	}
	at := make([]api.XY, len(v))
	for i, p := range v {
		at[i] = placeOf(p)
		if !within(p.X, p.Y, p.Z.Lo, p.Z.Hi) || p.Z.Lo > p.Z.Hi {
			return nil, api.ErrVertex
		}
	}
	return at, api.OK
}

func placeOf(v api.Vertex) api.XY {
	return api.XY{X: v.X, Y: v.Y}
}

// within reports whether numbers may be coordinates or heights.
func within(numbers ...int) bool {
	for _, n := range numbers {
		if n < -api.MaxCoord || n > api.MaxCoord {
			return false
		}
	}
	return true
}

// comparePlaces compares places in their order.
func comparePlaces(p, q api.XY) int {
	return cmp.Or(cmp.Compare(p.X, q.X), cmp.Compare(p.Y, q.Y))
}

// turn is exact.Turn of valid places.
func turn(a, b, c api.XY) int {
	sign, _ := exact.Turn(a, b, c)
	return sign
}

// sweep triangulates the convex hull of vertices, which it adds in the order of their places.
type sweep struct {
	at           []api.XY
	order        []int
	lower, upper []int    // both borders of the hull, from the first vertex to the last one, with those on its sides
	cover        [][3]int // triangles, counterclockwise, each beside the hull of those before it
}

func newSweep(v []api.Vertex) (*sweep, api.Errno) {
	at, err := placesOf(v)
	if err != api.OK {
		return nil, err
	}
	s := &sweep{at: at, order: make([]int, len(at))}
	for i := range s.order {
		s.order[i] = i
	}
	slices.SortFunc(s.order, func(i, j int) int { return comparePlaces(at[i], at[j]) })
	for k, p := range s.order {
		if k > 0 && at[p] == at[s.order[k-1]] {
			return nil, api.ErrSame
		}
		s.lower = s.extend(s.lower, p, 1)
		s.upper = s.extend(s.upper, p, -1)
	}
	return s, api.OK
}

// extend adds a vertex to a border, in front of whose sides it lies: triangles cover the space between them. The hull lies to the left of the border if way is 1, to the right if it is -1.
func (s *sweep) extend(border []int, p, way int) []int {
	for n := len(border); n > 1; n-- {
		a, b := border[n-2], border[n-1]
		if turn(s.at[a], s.at[b], s.at[p]) != -way {
			break
		}
		if way > 0 {
			a, b = b, a
		}
		s.cover = append(s.cover, [3]int{a, b, p})
		border = border[:n-1]
	}
	return append(border, p)
}

// isFlat reports whether all vertices lie on one line.
func (s *sweep) isFlat() bool {
	return len(s.cover) == 0
}

// border returns the vertices on the border of the convex hull, also those on its sides, counterclockwise from the first one on. If all vertices lie on one line, it returns these.
func (s *sweep) border() []int {
	if s.isFlat() {
		return s.order
	}
	list := slices.Clone(s.lower)
	for _, p := range slices.Backward(s.upper[1 : len(s.upper)-1]) {
		list = append(list, p)
	}
	return list
}

// Border returns the corners of the convex hull, counterclockwise from the first one in the order of places on.
func Border(v []api.Vertex) ([]int, api.Errno) {
	s, err := newSweep(v)
	if err != api.OK {
		return nil, err
	}
	border := s.border()
	n := len(border)
	var corners []int
	for k, p := range border {
		before, after := s.at[border[(k+n-1)%n]], s.at[border[(k+1)%n]]
		if s.isFlat() && (k == 0 || k == n-1) || turn(before, s.at[p], after) != 0 {
			corners = append(corners, p)
		}
	}
	return corners, api.OK
}

// Legal reports whether the side from a to b of the triangle a, b, c is legal with respect to d.
func Legal(a, b, c, d api.XY) (bool, api.Errno) {
	left, err := exact.Turn(a, b, c)
	if err != api.OK {
		return false, err
	}
	right, err := exact.Turn(a, b, d)
	if err != api.OK {
		return false, err
	}
	if left*right >= 0 {
		return false, api.ErrArg
	}
	return legal(a, b, c, d), api.OK
}

func legal(a, b, c, d api.XY) bool {
	inside, _ := exact.Circle(a, b, c, d)
	if inside == 0 {
		first := slices.MinFunc([]api.XY{a, b, c, d}, comparePlaces)
		return first == c || first == d
	}
	return inside < 0
}

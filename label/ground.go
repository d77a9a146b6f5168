package label

import (
	"cmp"
	"iter"
	"maps"
	"slices"

	"lidar/api"
)

// Sunk returns the Ids of the points that are sunk.
func Sunk(points []api.Point, r api.Terrain) ([]int, api.Errno) {
	s, err := newScene(points, r)
	if err != api.OK {
		return nil, err
	}
	return slices.Sorted(maps.Keys(s.sunk)), api.OK
}

// Lowest returns the Ids of the last echoes, of several at one place that of the lowest one.
func Lowest(points []api.Point) ([]int, api.Errno) {
	if !Valid(points) {
		return nil, api.ErrPoint
	}
	return idsOf(lowestLast(slices.Values(points))), api.OK
}

// Seeds returns the Ids of the lowest candidate of each cell.
func Seeds(points []api.Point, r api.Terrain) ([]int, api.Errno) {
	s, err := newScene(points, r)
	if err != api.OK {
		return nil, err
	}
	return idsOf(s.seeds(s.candidates())), api.OK
}

// Grow makes one round: it returns ground with the points that are added to it.
func Grow(points []api.Point, ground []int, r api.Terrain) ([]int, api.Errno) {
	s, err := newScene(points, r)
	if err != api.OK {
		return nil, err
	}
	list, err := pick(points, ground)
	if err != api.OK {
		return nil, err
	}
	m, err := meshOf(list)
	if err != api.OK {
		return nil, err
	}
	return idsOf(s.grown(list, surfaceOf(m), without(s.candidates(), list))), api.OK
}

// Ground returns the Ids of the ground points.
func Ground(points []api.Point, r api.Terrain) ([]int, api.Errno) {
	s, err := newScene(points, r)
	if err != api.OK {
		return nil, err
	}
	ground, _ := s.ground()
	return idsOf(ground), api.OK
}

// ground returns the ground points, in ascending order of their Ids, and their surface.
func (s scene) ground() ([]api.Point, surface) {
	rest := s.candidates()
	list := s.seeds(rest)
	for {
		m, _ := meshOf(list) // no two candidates are at one place
		over := surfaceOf(m)
		rest = without(rest, list)
		more := s.grown(list, over, rest)
		if len(more) == len(list) {
			return list, over
		}
		list = more
	}
}

// isSunk reports whether a point has points near it, all of which rise over it by more than Low.
func (s scene) isSunk(p api.Point) bool {
	alone := true
	for q := range s.near(p) {
		if q.Z.Lo-p.Z.Hi <= s.rules.Low {
			return false
		}
		alone = false
	}
	return !alone
}

// near hands on the other points that are at most Link away, which are in the cell of a point or in one around it.
func (s scene) near(p api.Point) iter.Seq[api.Point] {
	return func(yield func(api.Point) bool) {
		for _, c := range cellOf(p, s.rules.Link).around() {
			for _, q := range s.cells[c] {
				if q.Id != p.Id && s.isNear(p, q) && !yield(q) {
					return
				}
			}
		}
	}
}

// isNear reports whether the places of two points are at most Link apart.
func (s scene) isNear(p, q api.Point) bool {
	return squareOf(placeOf(p), placeOf(q)) <= s.rules.Link*s.rules.Link
}

// candidates returns what may be ground, in ascending order of Ids.
func (s scene) candidates() []api.Point {
	return lowestLast(only(slices.Values(s.points), func(p api.Point) bool { return !s.sunk[p.Id] }))
}

// lowestLast returns the lowest last echo at each place.
func lowestLast(points iter.Seq[api.Point]) []api.Point {
	isLast := func(p api.Point) bool { return p.Num == p.Of }
	return lowestOfEach(only(points, isLast), placeOf)
}

func (s scene) seeds(candidates []api.Point) []api.Point {
	return lowestOfEach(slices.Values(candidates), func(p api.Point) cell { return cellOf(p, s.rules.Cell) })
}

// without returns the points that are not among others.
func without(points, others []api.Point) []api.Point {
	isOther := setOf(others)
	return slices.Collect(only(slices.Values(points), func(p api.Point) bool { return !isOther[p.Id] }))
}

// fit is a candidate that fits the facet in which it lies.
type fit struct {
	point      api.Point
	facet, far int
}

// grown returns ground and, for each facet of its surface, the candidate that fits it best, in ascending order of their Ids.
func (s scene) grown(ground []api.Point, over surface, candidates []api.Point) []api.Point {
	nearest := func(a, b fit) int {
		return cmp.Or(cmp.Compare(a.far, b.far), byHeight(a.point, b.point))
	}
	facet := func(f fit) int { return f.facet }
	list := slices.Clone(ground)
	for _, f := range firstOfEach(s.fits(over, candidates), facet, nearest) {
		list = append(list, f.point)
	}
	slices.SortFunc(list, byId)
	return list
}

// fits hands on the candidates that fit.
func (s scene) fits(over surface, candidates []api.Point) iter.Seq[fit] {
	return func(yield func(fit) bool) {
		for _, p := range candidates {
			i, ok := over.find(placeOf(p))
			if !ok {
				continue
			}
			ok, far := over[i].fits(p, s.rules)
			if ok && !yield(fit{p, i, far}) {
				return
			}
		}
	}
}

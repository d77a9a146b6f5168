package label

import (
	"math/bits"
	"slices"

	"lidar/api"
	"lidar/exact"
	"lidar/mesh"
)

// Surface returns the mesh of the points with these Ids.
func Surface(points []api.Point, ids []int) (api.Mesh, api.Errno) {
	if !Valid(points) {
		return api.Mesh{}, api.ErrPoint
	}
	list, err := pick(points, ids)
	if err != api.OK {
		return api.Mesh{}, err
	}
	return meshOf(list)
}

// meshOf returns the mesh of valid points.
func meshOf(points []api.Point) (api.Mesh, api.Errno) {
	v := make([]api.Vertex, len(points))
	for i, p := range points {
		v[i] = api.Vertex{X: p.X, Y: p.Y, Z: p.Z}
	}
	m, err := mesh.Build(v, nil)
	if err != api.OK {
		return api.Mesh{}, api.ErrPlace // nothing else can be wrong with valid points
	}
	return m, api.OK
}

// Fits reports whether a point fits a mesh, and how far it is from it.
func Fits(m api.Mesh, p api.Point, r api.Terrain) (bool, int, api.Errno) {
	if !ValidRules(r) {
		return false, 0, api.ErrTerrain
	}
	if !isPoint(p) {
		return false, 0, api.ErrPoint
	}
	i, err := mesh.Find(m, placeOf(p))
	if err == api.ErrOutside {
		return false, 0, api.OK
	}
	if err != api.OK {
		return false, 0, err
	}
	f := facetOf(m, m.T[i])
	ok, far := f.fits(p, r)
	return ok, far, api.OK
}

// Rise returns the heights of a point above a mesh.
func Rise(m api.Mesh, p api.Point) (api.Span, bool, api.Errno) {
	if !isPoint(p) {
		return api.Span{}, false, api.ErrPoint
	}
	bounds, err := mesh.Bounds(m, placeOf(p))
	if err == api.ErrOutside {
		return api.Span{}, false, api.OK
	}
	if err != api.OK {
		return api.Span{}, false, err
	}
	rise, err := exact.Minus(p.Z, bounds)
	return rise, true, err
}

// surface is a mesh in which many places are looked for: functions of package mesh look at the whole mesh again for each of them.
type surface []facet

func surfaceOf(m api.Mesh) surface {
	s := make(surface, len(m.T))
	for i, t := range m.T {
		s[i] = facetOf(m, t)
	}
	return s
}

// find returns the index of the first facet in which a place lies.
func (s surface) find(at api.XY) (int, bool) {
	for i := range s {
		if s[i].has(at) {
			return i, true
		}
	}
	return 0, false
}

// rise returns the heights of a valid point above the surface, if its place lies in a facet.
func (s surface) rise(p api.Point) (api.Span, bool) {
	i, ok := s.find(placeOf(p))
	if !ok {
		return api.Span{}, false
	}
	rise, _ := exact.Minus(p.Z, s[i].bounds(placeOf(p)))
	return rise, true
}

// facet is a triangle of a mesh, with the least box that contains it: most places are not even in this.
type facet struct {
	corners [3]api.Vertex
	places  [3]api.XY
	lo, hi  api.XY
}

func facetOf(m api.Mesh, t [3]int) facet {
	var f facet
	for i, k := range t {
		f.corners[i] = m.V[k]
		f.places[i] = api.XY{X: m.V[k].X, Y: m.V[k].Y}
	}
	a, b, c := f.places[0], f.places[1], f.places[2]
	f.lo = api.XY{X: min(a.X, b.X, c.X), Y: min(a.Y, b.Y, c.Y)}
	f.hi = api.XY{X: max(a.X, b.X, c.X), Y: max(a.Y, b.Y, c.Y)}
	return f
}

// has reports whether a place lies in the facet, its sides included.
func (f *facet) has(at api.XY) bool {
	if at.X < f.lo.X || f.hi.X < at.X || at.Y < f.lo.Y || f.hi.Y < at.Y {
		return false
	}
	for i, from := range f.places {
		turn, _ := exact.Turn(from, f.places[(i+1)%3], at)
		if turn < 0 {
			return false
		}
	}
	return true
}

// bounds returns the bounds of the height over a place in the facet, which depend on nothing but its corners.
func (f *facet) bounds(at api.XY) api.Span {
	alone := api.Mesh{V: f.corners[:], T: [][3]int{{0, 1, 2}}}
	bounds, _ := mesh.Bounds(alone, at)
	return bounds
}

// fits reports whether a point whose place lies in the facet fits it, and how far it is from it.
func (f *facet) fits(p api.Point, r api.Terrain) (bool, int) {
	isSteep := func(v api.Vertex) bool {
		d, _ := exact.Gap(p.Z, v.Z)
		return isSteeper(r.Slope, d, squareOf(placeOf(p), api.XY{X: v.X, Y: v.Y}))
	}
	if slices.ContainsFunc(f.corners[:], isSteep) {
		return false, 0
	}
	far, _ := exact.Gap(p.Z, f.bounds(placeOf(p)))
	if far > r.Reach {
		return false, 0
	}
	return true, far
}

// isSteeper reports whether two points have more than a slope in thousandths between them, where d is the distance of their heights and e the square of that of their places.
//
// Both sides of 10^6 * d^2 > slope^2 * e may need more than 64 bits.
func isSteeper(slope, d, e int) bool {
	high, low := bits.Mul64(uint64(1000*1000*d), uint64(d))
	mostHigh, mostLow := bits.Mul64(uint64(slope*slope), uint64(e))
	return high > mostHigh || high == mostHigh && low > mostLow
}

package mesh_test

import (
	"math/rand"
	"slices"
	"testing"

	"lidar/api"
	"lidar/mesh"
)

func copyOf(m api.Mesh) api.Mesh {
	return api.Mesh{V: slices.Clone(m.V), T: slices.Clone(m.T), Lines: slices.Clone(m.Lines)}
}

func areEqual(a, b api.Mesh) bool {
	return slices.Equal(a.V, b.V) && slices.Equal(a.T, b.T) && slices.Equal(a.Lines, b.Lines)
}

// isCanonical builds a mesh anew.
func isCanonical(m api.Mesh) bool {
	built, err := mesh.Build(m.V, m.Lines)
	return err == api.OK && areEqual(built, m)
}

// P6.4: of all sets of triangles over few vertices one is canonical.
func TestCheckAllTriangles(t *testing.T) {
	r := rand.New(rand.NewSource(1))
	for round := range 150 {
		v := randomVertices(r, kinds[round%len(kinds)], 5)
		m := build(t, v, randomLines(r, v, r.Intn(5))...)
		good, triangles := copyOf(m), plainTriangles(v)
		for set := range 1 << len(triangles) {
			m.T = m.T[:0]
			for i, a := range triangles {
				if set>>i&1 == 1 {
					m.T = append(m.T, a)
				}
			}
			want := api.ErrMesh
			if areEqual(m, good) {
				want = api.OK
			}
			if err := mesh.Check(m); err != want {
				t.Fatalf("Check of %v: error %d, want %d", m, err, want)
			}
		}
	}
}

// plainTriangles returns all triangles of vertices, in the form and order of a canonical mesh.
func plainTriangles(v []api.Vertex) []three {
	var list []three
	for a := range v {
		for b := a + 1; b < len(v); b++ {
			for c := a + 1; c < len(v); c++ {
				if plainSide(placeOf(v[a]), placeOf(v[b]), placeOf(v[c])) > 0 {
					list = append(list, three{a, b, c})
				}
			}
		}
	}
	return list
}

// spoil changes something in a mesh; the mesh may stay canonical.
func spoil(r *rand.Rand, m *api.Mesh) {
	if len(m.V) > 0 && r.Intn(4) == 0 {
		p := &m.V[r.Intn(len(m.V))]
		*[]*int{&p.X, &p.Y, &p.Z.Lo, &p.Z.Hi}[r.Intn(4)] += []int{-1, 1, -2, 2, limit, -limit}[r.Intn(6)]
		return
	}
	if len(m.Lines) > 0 && r.Intn(2) == 0 {
		i, k := r.Intn(len(m.Lines)), r.Intn(len(m.Lines))
		l := &m.Lines[i]
		switch r.Intn(5) {
		case 0:
			l[0], l[1] = l[1], l[0]
		case 1:
			l[r.Intn(2)] += r.Intn(5) - 2
		case 2:
			*l, m.Lines[k] = m.Lines[k], *l
		case 3:
			m.Lines = slices.Delete(m.Lines, i, i+1)
		case 4:
			m.Lines = slices.Insert(m.Lines, i, *l)
		}
		return
	}
	if len(m.T) == 0 {
		m.T = append(m.T, three{0, 1, 2})
		return
	}
	i, k := r.Intn(len(m.T)), r.Intn(len(m.T))
	a := &m.T[i]
	switch r.Intn(7) {
	case 0:
		a[1], a[2] = a[2], a[1]
	case 1:
		*a = three{a[1], a[2], a[0]}
	case 2:
		a[r.Intn(3)] += r.Intn(5) - 2
	case 3:
		*a, m.T[k] = m.T[k], *a
	case 4:
		m.T = slices.Delete(m.T, i, i+1)
	case 5:
		m.T = slices.Insert(m.T, i, *a)
	case 6:
		flip(m, i, k)
	}
}

// flip replaces the common side of two triangles by their other diagonal, if they have one.
func flip(m *api.Mesh, i, k int) {
	a, b := m.T[i], m.T[k]
	for range 3 {
		for range 3 {
			if a[0] == b[1] && a[1] == b[0] {
				m.T[i], m.T[k] = leastFirst(three{a[2], a[0], b[2]}), leastFirst(three{b[2], b[0], a[2]})
			}
			b = three{b[1], b[2], b[0]}
		}
		a = three{a[1], a[2], a[0]}
	}
	slices.SortFunc(m.T, func(a, b three) int { return slices.Compare(a[:], b[:]) })
}

func leastFirst(a three) three {
	for a[0] > min(a[1], a[2]) {
		a = three{a[1], a[2], a[0]}
	}
	return a
}

// P6.4: meshes in which something was changed.
func TestCheckSpoilt(t *testing.T) {
	r := rand.New(rand.NewSource(2))
	counts := map[api.Errno]int{}
	for range 20000 {
		m := randomMesh(t, r, 12)
		spoil(r, &m)
		want := api.ErrMesh
		if isCanonical(m) {
			want = api.OK
		}
		if err := mesh.Check(m); err != want {
			t.Fatalf("Check of %v: error %d, want %d", m, err, want)
		}
		counts[want]++
	}
	if counts[api.OK] < 1000 || counts[api.ErrMesh] < 10000 {
		t.Errorf("the meshes give %v", counts)
	}
}

// badMeshes are meshes that are not canonical.
func badMeshes() []api.Mesh {
	v := append(square(), vertex(1, 0, 5, 5), vertex(1, 1, 5, 5))
	row := onGround(place(0, 0), place(1, 1), place(2, 2))
	list := []api.Mesh{
		{V: square()},
		{V: square(), T: []three{{0, 1, 2}}},
		{V: square(), T: []three{{0, 1, 3}, {0, 3, 2}}},
		{V: square(), T: []three{{1, 3, 2}, {0, 1, 2}}},
		{V: square(), T: []three{{0, 1, 2}, {3, 2, 1}}},
		{V: square(), T: []three{{0, 1, 2}, {1, 2, 3}}},
		{V: square(), T: []three{{0, 1, 2}, {0, 1, 2}, {1, 3, 2}}},
		{V: square(), T: []three{{-1, 1, 2}, {0, 1, 2}, {1, 3, 2}}},
		{V: square(), T: []three{{0, 1, 2}, {1, 3, 2}, {1, 4, 2}}},
		{V: square(), T: []three{{0, 1, 2}, {1, 3, 1<<63 - 1}}},
		{V: square(), T: []three{{-1 << 63, 1, 2}, {1, 3, 2}}},
		{V: square(), T: []three{{0, 1, 2}, {1, 3, 2}}, Lines: []line{{0, 3}}},
		{V: square(), T: []three{{0, 1, 3}, {0, 3, 2}}, Lines: []line{{3, 0}}},
		{V: square(), T: []three{{0, 1, 2}, {1, 3, 2}}, Lines: []line{{1, 2}, {0, 1}}},
		{V: square(), T: []three{{0, 1, 2}, {1, 3, 2}}, Lines: []line{{1, 2}, {1, 2}}},
		{V: square(), T: []three{{0, 1, 2}, {1, 3, 2}}, Lines: []line{{1, 1}}},
		{V: square(), T: []three{{0, 1, 2}, {1, 3, 2}}, Lines: []line{{-1, 1}}},
		{V: square(), T: []three{{0, 1, 2}, {1, 3, 2}}, Lines: []line{{1, 4}}},
		{V: v[:5], T: []three{{0, 1, 2}, {1, 3, 2}}},                   // without the vertex on the border
		{V: append(square(), v[5]), T: []three{{0, 1, 2}, {1, 3, 2}}},  // without the vertex on a side
		{V: v, T: []three{{0, 4, 5}, {0, 5, 2}, {1, 5, 4}, {1, 3, 5}}}, // with a notch
		{V: row, T: []three{{0, 1, 2}}},
		{V: row, Lines: []line{{0, 2}}},
		{V: row, Lines: []line{{0, 1}, {0, 2}}},
		{V: row[:1], T: []three{{0, 0, 0}}},
		{T: []three{{0, 0, 0}}},
		{Lines: []line{{0, 0}}},
		{V: append(square(), vertex(0, 0, 9, 9)), T: []three{{0, 1, 2}, {1, 3, 2}}},
		{V: make([]api.Vertex, 2000)},
		{V: manyVertices(1025)},
	}
	for _, bad := range badVertices() {
		list = append(list, api.Mesh{V: []api.Vertex{bad}}, api.Mesh{V: append(square()[:3], bad), T: []three{{0, 1, 2}, {1, 3, 2}}})
	}
	return list
}

// P6.1: ErrMesh comes before all other errors.
func TestBadMeshes(t *testing.T) {
	for _, m := range badMeshes() {
		var errs []api.Errno
		note := func(err api.Errno, isZero ...bool) {
			if slices.Contains(isZero, false) {
				t.Errorf("%v has a result", m)
			}
			errs = append(errs, err)
		}
		note(mesh.Check(m))
		inserted, err := mesh.Insert(m, vertex(-1<<62, 0, 1, 0))
		note(err, areEqual(inserted, api.Mesh{}))
		removed, err := mesh.Remove(m, -1)
		note(err, areEqual(removed, api.Mesh{}))
		sides, err := mesh.Sides(m)
		note(err, len(sides) == 0)
		around, err := mesh.Around(m, -1)
		note(err, len(around) == 0)
		far := place(1<<40, 0)
		i, err := mesh.Find(m, far)
		note(err, i == 0)
		lo, hi, err := mesh.Height(m, far)
		note(err, isZero(lo), isZero(hi))
		s, err := mesh.Bounds(m, far)
		note(err, s == api.Span{})
		area, err := mesh.Area(m)
		note(err, area == 0)
		lo, hi, err = mesh.Volume(m, 1<<40)
		note(err, isZero(lo), isZero(hi))
		curves, err := mesh.Contours(m, 1<<40, false)
		note(err, len(curves) == 0)
		lo, hi, err = mesh.Crossing(m, line{-1, 7}, 1<<40, true)
		note(err, isZero(lo), isZero(hi))
		stops, err := mesh.Profile(m, far, far)
		note(err, len(stops) == 0)
		if len(errs) != 13 || slices.ContainsFunc(errs, func(err api.Errno) bool { return err != api.ErrMesh }) {
			t.Errorf("%v gives the errors %v", m, errs)
		}
	}
}

// P6.4: meshes without triangles are canonical too; nil and empty lists are the same.
func TestCheckFlat(t *testing.T) {
	row := onGround(place(0, 0), place(2, 2), place(1, 1))
	for _, m := range []api.Mesh{
		{},
		{V: []api.Vertex{}, T: []three{}, Lines: []line{}},
		{V: row[:1]},
		{V: row[:2]},
		{V: row[:2], T: []three{}, Lines: []line{{0, 1}}},
		{V: row},
		{V: row, Lines: []line{{0, 2}}},
		{V: row, Lines: []line{{0, 2}, {1, 2}}},
	} {
		if err := mesh.Check(m); err != api.OK {
			t.Errorf("Check of %v: error %d", m, err)
		}
	}
}

package mesh_test

import (
	"math/big"
	"math/rand"
	"slices"
	"testing"

	"lidar/api"
	"lidar/mesh"
)

// apart reports whether a side of the first triangle lies between both.
func apart(v []api.Vertex, t, u three) bool {
	for k, a := range t {
		p, q := placeOf(v[a]), placeOf(v[t[(k+1)%3]])
		if plainSide(p, q, placeOf(v[u[0]])) <= 0 && plainSide(p, q, placeOf(v[u[1]])) <= 0 && plainSide(p, q, placeOf(v[u[2]])) <= 0 {
			return true
		}
	}
	return false
}

// plainArea returns twice the area of the polygon with these corners.
func plainArea(v []api.Vertex, corners []int) *big.Rat {
	sum := new(big.Rat)
	for _, p := range corners {
		q := corners[(slices.Index(corners, p)+1)%len(corners)]
		sum = plus(sum, plainTurn(spotOf(place(0, 0)), spotOf(placeOf(v[p])), spotOf(placeOf(v[q]))))
	}
	return sum
}

// expectForm checks that triangles are in the form and order of a canonical mesh, and that no vertex lies in one but its corners.
func expectForm(t *testing.T, m api.Mesh) {
	t.Helper()
	for i, a := range m.T {
		if a[0] < 0 || a[0] >= min(a[1], a[2]) || max(a[1], a[2]) >= len(m.V) {
			t.Fatalf("%v has the triangle %v", m, a)
		}
		if i > 0 && slices.Compare(m.T[i-1][:], a[:]) >= 0 {
			t.Fatalf("%v is not in order", m.T)
		}
		if plainSide(placeOf(m.V[a[0]]), placeOf(m.V[a[1]]), placeOf(m.V[a[2]])) <= 0 {
			t.Fatalf("%v has the triangle %v", m, a)
		}
		for k, p := range m.V {
			if !slices.Contains(a[:], k) && plainCovers(m.V, a, placeOf(p)) {
				t.Fatalf("%v has the triangle %v over the vertex %d", m, a, k)
			}
		}
	}
}

// expectDelaunay checks that the triangles of a mesh are the Delaunay triangulation, as the chapter defines it.
func expectDelaunay(t *testing.T, m api.Mesh) {
	t.Helper()
	expectForm(t, m)
	area := new(big.Rat)
	for i, a := range m.T {
		area = plus(area, plainArea(m.V, a[:]))
		for _, b := range m.T[:i] {
			if !apart(m.V, a, b) && !apart(m.V, b, a) {
				t.Fatalf("%v has the triangles %v and %v", m, a, b)
			}
		}
	}
	if hull := plainBorder(m.V); area.Cmp(plainArea(m.V, hull)) != 0 {
		t.Fatalf("the triangles of %v have the area %s, the hull %v another one", m, area.RatString(), hull)
	}
	_, at := plainSides(m.T)
	for _, l := range m.Lines {
		if len(m.T) > 0 && len(at[l]) == 0 {
			t.Fatalf("%v has the line %v, which is no side", m, l)
		}
	}
	for s, list := range at {
		if len(list) == 2 && !slices.Contains(m.Lines, s) {
			c, d := third(m.T[list[0]], s), third(m.T[list[1]], s)
			if !plainLegal(placeOf(m.V[s[0]]), placeOf(m.V[s[1]]), placeOf(m.V[c]), placeOf(m.V[d])) {
				t.Fatalf("%v has the side %v between %d and %d", m, s, c, d)
			}
		}
	}
}

// third returns the corner that is not on a side.
func third(t three, s line) int {
	return t[0] + t[1] + t[2] - s[0] - s[1]
}

// P6.4: example 1.
func TestBuildExample(t *testing.T) {
	v := onGround(place(0, 0), place(2, 0), place(0, 2), place(2, 2))
	m := build(t, v)
	if !slices.Equal(m.V, v) || !slices.Equal(m.T, []three{{0, 1, 2}, {1, 3, 2}}) || len(m.Lines) != 0 {
		t.Errorf("without lines: %v", m)
	}
	for _, l := range []line{{0, 3}, {3, 0}} {
		m = build(t, v, l)
		if !slices.Equal(m.T, []three{{0, 1, 3}, {0, 3, 2}}) || !slices.Equal(m.Lines, []line{{0, 3}}) {
			t.Errorf("with the line %v: %v", l, m)
		}
	}
	if m := build(t, v, line{2, 1}, line{1, 0}); !slices.Equal(m.T, []three{{0, 1, 2}, {1, 3, 2}}) || !slices.Equal(m.Lines, []line{{0, 1}, {1, 2}}) {
		t.Errorf("with lines that are sides: %v", m)
	}
}

// P6.4, P6.14: random vertices and lines.
func TestBuild(t *testing.T) {
	r := rand.New(rand.NewSource(1))
	for round := range 3000 {
		v := randomVertices(r, kinds[round%len(kinds)], r.Intn(24))
		lines := randomLines(r, v, r.Intn(2)*r.Intn(30))
		m := build(t, v, lines...)
		if !slices.Equal(m.V, v) || !slices.Equal(m.Lines, plainLines(lines)) {
			t.Fatalf("Build of %v and %v has made %v", v, lines, m)
		}
		expectDelaunay(t, m)
		if err := mesh.Check(m); err != api.OK {
			t.Fatalf("Check of %v: error %d", m, err)
		}
		expectCounts(t, m)
	}
}

// expectCounts checks P6.14.
func expectCounts(t *testing.T, m api.Mesh) {
	t.Helper()
	sides, err := mesh.Sides(m)
	if err != api.OK {
		t.Fatalf("Sides of %v: error %d", m, err)
	}
	n, k := len(m.V), 0
	if isFlat(m.V) {
		if len(m.T) > 0 || len(sides) > 0 {
			t.Fatalf("%v has triangles or the sides %v", m, sides)
		}
		return
	}
	corners := plainBorder(m.V)
	for _, p := range m.V {
		for i, c := range corners {
			if q := corners[(i+1)%len(corners)]; placeOf(p) != placeOf(m.V[q]) && plainOn(placeOf(m.V[c]), placeOf(m.V[q]), placeOf(p)) {
				k++
			}
		}
	}
	if len(m.T) != 2*n-2-k || len(sides) != 3*n-3-k {
		t.Fatalf("%v has %d triangles and %d sides, but %d of %d vertices on its border", m, len(m.T), len(sides), k, n)
	}
}

// P6.4: every list of lines between few vertices is either good or has its error.
func TestAllLines(t *testing.T) {
	r := rand.New(rand.NewSource(2))
	for round := range 60 {
		v := randomVertices(r, kinds[round%len(kinds)], 5)
		var pairs []line
		for b := range v {
			for a := range b {
				pairs = append(pairs, line{b, a})
			}
		}
		for set := range 1 << len(pairs) {
			var lines []line
			for i, p := range pairs {
				if set>>i&1 == 1 {
					lines = append(lines, p)
				}
			}
			m, err := mesh.Build(v, lines)
			if want := plainLineError(v, lines); err != want {
				t.Fatalf("Build of %v with the lines %v: error %d, want %d", v, lines, err, want)
			}
			if err == api.OK {
				expectDelaunay(t, m)
			} else if len(m.V)+len(m.T)+len(m.Lines) > 0 {
				t.Fatalf("Build with error %d has made %v", err, m)
			}
		}
	}
}

// P6.4: lines that cross many sides, and lines between whose ends edges end from both sides.
func TestLongLines(t *testing.T) {
	r := rand.New(rand.NewSource(3))
	for range 300 {
		v := onGround(place(-1000, 0), place(1000, 1))
		for i := range 2 + r.Intn(40) {
			v = append(v, vertex(-950+45*i+r.Intn(3), r.Intn(1+r.Intn(400))-r.Intn(1+r.Intn(400)), 0, 0))
		}
		lines := []line{{0, 1}}
		if plainLineError(v, lines) != api.OK {
			continue
		}
		lines = append(lines, randomLines(r, v, 3)...)
		if plainLineError(v, lines) != api.OK {
			lines = lines[:1]
		}
		expectDelaunay(t, build(t, v, lines...))
	}
}

// P6.4: the errors of lines come after those of vertices, in their order.
func TestBuildErrors(t *testing.T) {
	v := square()
	noLine := []line{{0, 0}}
	for _, c := range []struct {
		v     []api.Vertex
		lines []line
		want  api.Errno
	}{
		{append(manyVertices(1024), vertex(5, 5, 0, 0)), noLine, api.ErrArg},
		{append(square(), vertex(0, 0, 1, 0)), noLine, api.ErrVertex},
		{append(square(), vertex(0, 0, 0, 1)), noLine, api.ErrSame},
		{nil, noLine, api.ErrLine},
		{v, []line{{0, 3}, {1, 2}, {1, 1}}, api.ErrLine},
		{v, []line{{0, 3}, {1, 2}, {1, 4}}, api.ErrLine},
		{v, []line{{0, 3}, {1, 2}, {-1, 1}}, api.ErrLine},
		{v, []line{{0, 3}, {1, 2}, {-1 << 63, 1<<63 - 1}}, api.ErrLine},
		{v, []line{{0, 3}, {1, 2}, {3, 0}}, api.ErrLine},
		{v, []line{{0, 3}, {1, 2}, {0, 3}}, api.ErrLine},
		{v, []line{{0, 3}, {1, 2}}, api.ErrCross},
		{append(square(), vertex(1, 1, 0, 0)), []line{{0, 3}}, api.ErrCross},
		{append(square(), vertex(1, 0, 0, 0)), []line{{0, 1}}, api.ErrCross},
		{onGround(place(0, 0), place(1, 1), place(2, 2)), []line{{0, 2}}, api.ErrCross},
		{onGround(place(0, 0), place(1, 1), place(2, 2)), []line{{0, 1}, {2, 0}}, api.ErrCross},
		{onGround(place(0, 0), place(2, 2), place(1, 1)), []line{{2, 0}, {1, 2}}, api.OK},
		{v, []line{{0, 1}, {1, 3}, {3, 2}, {2, 0}, {0, 3}}, api.OK},
	} {
		m, err := mesh.Build(c.v, c.lines)
		if err != c.want || err != api.OK && len(m.V)+len(m.T)+len(m.Lines) > 0 {
			t.Errorf("Build with the lines %v = %v, error %d, want %d", c.lines, m, err, c.want)
		}
	}
}

// manyVertices returns vertices on a parabola.
func manyVertices(n int) []api.Vertex {
	var v []api.Vertex
	for i := range n {
		v = append(v, vertex(i-n/2, i*i, 0, 0))
	}
	return v
}

// placesIn returns the triangles as places.
func placesIn(m api.Mesh) map[[3]api.XY]bool {
	set := map[[3]api.XY]bool{}
	for _, t := range m.T {
		corners := []api.XY{placeOf(m.V[t[0]]), placeOf(m.V[t[1]]), placeOf(m.V[t[2]])}
		slices.SortFunc(corners, func(p, q api.XY) int {
			if before(p, q) {
				return -1
			}
			return 1
		})
		set[[3]api.XY(corners)] = true
	}
	return set
}

// P6.12: the order of vertices and lines does not matter.
func TestOrder(t *testing.T) {
	r := rand.New(rand.NewSource(4))
	for range 500 {
		m := randomMesh(t, r, 30)
		to := r.Perm(len(m.V))
		v := make([]api.Vertex, len(m.V))
		for i, k := range to {
			v[k] = m.V[i]
		}
		var lines []line
		for _, l := range m.Lines {
			lines = append(lines, line{to[l[r.Intn(2)]], 0})
			last := &lines[len(lines)-1]
			last[1] = to[l[0]] + to[l[1]] - last[0]
		}
		r.Shuffle(len(lines), func(i, k int) { lines[i], lines[k] = lines[k], lines[i] })
		other := build(t, v, lines...)
		a, b := placesIn(m), placesIn(other)
		if len(a) != len(m.T) || len(b) != len(a) {
			t.Fatalf("%v has become %v", m, other)
		}
		for corners := range a {
			if !b[corners] {
				t.Fatalf("%v has the triangle %v, %v does not", m, corners, other)
			}
		}
	}
}

// P6.13
func TestEmptyCircles(t *testing.T) {
	r := rand.New(rand.NewSource(5))
	for round := range 100 {
		m := build(t, randomVertices(r, kinds[round%len(kinds)], 30))
		for _, a := range m.T {
			for _, p := range m.V {
				if plainInside(placeOf(m.V[a[0]]), placeOf(m.V[a[1]]), placeOf(m.V[a[2]]), placeOf(p)) > 0 {
					t.Fatalf("%v has the triangle %v with %v in its circle", m, a, p)
				}
			}
		}
	}
}

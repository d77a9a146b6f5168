package model_test

import (
	"math/rand"
	"slices"
	"testing"

	"lidar/api"
	"lidar/mesh"
	"lidar/model"
)

const mostLimit = 1 << 30

func vertex(x, y, lo, hi int) api.Vertex {
	return api.Vertex{X: x, Y: y, Z: api.Span{Lo: lo, Hi: hi}}
}

func build(t *testing.T, v []api.Vertex, lines ...[2]int) api.Mesh {
	t.Helper()
	m, err := mesh.Build(v, lines)
	if err != api.OK {
		t.Fatalf("Build of %v with the lines %v: error %d", v, lines, err)
	}
	return m
}

func render(t *testing.T, m api.Mesh, f api.Raster, most int) api.Grid {
	t.Helper()
	g, err := model.Render(m, f, most)
	if err != api.OK || !model.Valid(g) || g.Raster != f {
		t.Fatalf("Render of %v, %v, %d: %v, error %d", m, f, most, g, err)
	}
	return g
}

// plainRender asks the mesh for each node.
func plainRender(t *testing.T, m api.Mesh, f api.Raster, most int) api.Grid {
	t.Helper()
	g := full(f, void)
	for i := range g.Cells {
		k, err := mesh.Find(m, placeOf(f, i))
		if err != api.OK || hasLongSide(m, m.T[k], most) {
			continue
		}
		z, err := mesh.Bounds(m, placeOf(f, i))
		if err != api.OK {
			t.Fatalf("Bounds: error %d", err)
		}
		g.Cells[i] = api.Cell{Z: z}
	}
	return g
}

func hasLongSide(m api.Mesh, t [3]int, most int) bool {
	for _, side := range [3][2]int{{0, 1}, {1, 2}, {0, 2}} {
		v, w := m.V[t[side[0]]], m.V[t[side[1]]]
		if (v.X-w.X)*(v.X-w.X)+(v.Y-w.Y)*(v.Y-w.Y) > most*most {
			return true
		}
	}
	return false
}

// randomMesh returns a mesh around a raster, with many vertices at its nodes if dense is true.
func randomMesh(t *testing.T, r *rand.Rand, f api.Raster, dense bool) api.Mesh {
	t.Helper()
	var v []api.Vertex
	taken := map[api.XY]bool{}
	inside := func(x int) int { return max(-limit, min(x, limit)) }
	for range r.Intn(30) {
		p := placeOf(f, r.Intn(f.NX*f.NY))
		if !dense {
			p.X, p.Y = inside(p.X+r.Intn(2*f.Step+1)-f.Step), inside(p.Y+r.Intn(2*f.Step+1)-f.Step)
		}
		if !taken[p] {
			c := kinds[r.Intn(len(kinds))](r)
			v = append(v, api.Vertex{X: p.X, Y: p.Y, Z: c.Z})
		}
		taken[p] = true
	}
	m := build(t, v)
	for range r.Intn(4) {
		if len(v) < 2 {
			break
		}
		more, err := mesh.Build(v, append(m.Lines[:len(m.Lines):len(m.Lines)], [2]int{r.Intn(len(v)), r.Intn(len(v))}))
		if err == api.OK {
			m = more
		}
	}
	return m
}

// P9.3
func TestRender(t *testing.T) {
	r := rand.New(rand.NewSource(11))
	known := 0
	for k := range 400 {
		f := randomRaster(r)
		m := randomMesh(t, r, f, k%2 == 0)
		most := []int{0, f.Step, 2 * f.Step, 3 * f.Step, r.Intn(8*f.Step + 1), mostLimit}[r.Intn(6)]
		got, want := render(t, m, f, most), plainRender(t, m, f, most)
		if !sameGrid(got, want) {
			t.Fatalf("Render of %v, %v, %d: %v, not %v", m, f, most, got, want)
		}
		for _, c := range got.Cells {
			if !c.Void {
				known++
			}
		}
	}
	if known < 1000 {
		t.Errorf("only %d nodes are known", known)
	}
}

// P9.3: heights are rounded outward, of sides and corners the first triangle counts, and a side may be as long as the limit.
func TestRenderTriangles(t *testing.T) {
	m := build(t, []api.Vertex{vertex(0, 0, 0, 0), vertex(3, 4, 1, 2), vertex(0, 8, 0, 1), vertex(40, 4, 5, 5)})
	if !slices.Equal(m.T, [][3]int{{0, 1, 2}, {0, 3, 1}, {1, 3, 2}}) {
		t.Fatalf("the triangles are %v", m.T)
	}
	f := api.Raster{Step: 4, NX: 3, NY: 3}
	near := []api.Cell{cell(0, 0), void, void, cell(0, 1), void, void, cell(0, 1), void, void}
	far := []api.Cell{cell(0, 0), void, void, cell(0, 1), cell(1, 3), cell(1, 3), cell(0, 1), void, void}
	for _, c := range []struct {
		most  int
		cells []api.Cell
	}{{7, full(f, void).Cells}, {8, near}, {37, near}, {40, near}, {41, far}, {mostLimit, far}, {0, full(f, void).Cells}} {
		if g := render(t, m, f, c.most); !sameGrid(g, api.Grid{Raster: f, Cells: c.cells}) {
			t.Errorf("Render with the limit %d: %v, not %v", c.most, g.Cells, c.cells)
		}
	}
	// All triangles have the corner (3, 4); the first one alone has no long side.
	corner := api.Raster{X0: 3, Y0: 4, Step: 1, NX: 1, NY: 1}
	if g := render(t, m, corner, 8); g.Cells[0] != cell(1, 2) {
		t.Errorf("the corner is %v", g.Cells)
	}
	other := build(t, []api.Vertex{vertex(40, 4, 5, 5), vertex(0, 0, 0, 0), vertex(3, 4, 1, 2), vertex(0, 8, 0, 1)})
	if g := render(t, other, corner, 8); g.Cells[0] != void {
		t.Errorf("the corner with a long triangle in front is %v", g.Cells)
	}
}

// P9.3: at the limits of places and heights, and meshes without triangles.
func TestRenderAtTheLimits(t *testing.T) {
	square := []api.Vertex{vertex(-limit, -limit, -limit, limit), vertex(limit, -limit, limit, limit), vertex(-limit, limit, -limit, -limit), vertex(limit, limit, 0, 1)}
	diagonal := 759250124 // the diagonal is longer than this by less than 1
	for _, f := range []api.Raster{{X0: -limit, Y0: -limit, Step: mostStep, NX: 64, NY: 64}, {X0: limit, Y0: limit, Step: 1, NX: 1, NY: 1}, {X0: -limit, Y0: limit - 5, Step: 5, NX: 3, NY: 2}} {
		m := build(t, square)
		for _, most := range []int{0, 2*limit - 1, 2 * limit, diagonal - 1, diagonal, diagonal + 1, mostLimit} {
			if got, want := render(t, m, f, most), plainRender(t, m, f, most); !sameGrid(got, want) {
				t.Errorf("Render with %v and the limit %d: %v, not %v", f, most, got, want)
			}
		}
		if render(t, m, f, diagonal).Cells[0] != void || render(t, m, f, diagonal+1).Cells[0] == void {
			t.Errorf("the diagonal is not between %d and %d", diagonal, diagonal+1)
		}
		for n := range 3 {
			if g := render(t, build(t, square[:n]), f, mostLimit); !sameGrid(g, full(f, void)) {
				t.Errorf("Render of %d vertices: %v", n, g)
			}
		}
	}
}

// P9.13: vertices at nodes keep their spans; a smaller limit makes nodes void and changes no other one.
func TestRenderLimits(t *testing.T) {
	r := rand.New(rand.NewSource(12))
	for k := range 200 {
		f := randomRaster(r)
		m := randomMesh(t, r, f, k%4 > 0)
		wide := render(t, m, f, mostLimit)
		if len(m.T) > 0 {
			for _, v := range m.V {
				for i, c := range wide.Cells {
					if placeOf(f, i) == (api.XY{X: v.X, Y: v.Y}) && c.Z != v.Z {
						t.Fatalf("the vertex %v of %v has become %v", v, m, c)
					}
				}
			}
		}
		for most := 16 * f.Step; most > 0; most /= 2 {
			narrow := render(t, m, f, most)
			for i, c := range narrow.Cells {
				if !c.Void && c != wide.Cells[i] {
					t.Fatalf("Render of %v with the limit %d: node %d is %v, not %v", m, most, i, c, wide.Cells[i])
				}
			}
			wide = narrow
		}
	}
}

// R1, P9.3: as many vertices and nodes as are allowed.
func TestLargeRender(t *testing.T) {
	r := rand.New(rand.NewSource(13))
	var v []api.Vertex
	taken := map[api.XY]bool{}
	for len(v) < api.MaxVertices {
		p := api.XY{X: r.Intn(6300), Y: r.Intn(6300)}
		if !taken[p] {
			v = append(v, vertex(p.X, p.Y, r.Intn(100)-limit, limit-r.Intn(100)))
		}
		taken[p] = true
	}
	m := build(t, v)
	g := render(t, m, api.Raster{Step: 100, NX: 64, NY: 64}, mostLimit)
	for _, i := range []int{0, 1, 64, 700, 2080, 4095} {
		z, err := mesh.Bounds(m, placeOf(g.Raster, i))
		if want := (api.Cell{Void: err != api.OK, Z: z}); g.Cells[i] != want {
			t.Errorf("node %d is %v, not %v", i, g.Cells[i], want)
		}
	}
}

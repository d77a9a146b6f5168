package mesh_test

import (
	"math/rand"
	"slices"
	"testing"

	"lidar/api"
	"lidar/mesh"
)

// largeInputs are as many vertices as are allowed; in some of them most sides of a first triangulation have to be replaced.
func largeInputs() map[string][]api.Vertex {
	r := rand.New(rand.NewSource(1))
	inputs := map[string][]api.Vertex{"parabola": manyVertices(api.MaxVertices)}
	add := func(name string, at func(i int) api.XY) {
		var v []api.Vertex
		taken := map[api.XY]bool{}
		for i := 0; len(v) < api.MaxVertices; i++ {
			if p := at(i); !taken[p] {
				taken[p] = true
				v = append(v, vertex(p.X, p.Y, r.Intn(100), 100+r.Intn(100)))
			}
		}
		inputs[name] = v
	}
	add("anywhere", func(int) api.XY { return place(randomCoordinate(r)/32, randomCoordinate(r)/32) })
	add("dense", func(int) api.XY { return place(r.Intn(40), r.Intn(40)) })
	add("grid", func(i int) api.XY { return place(i%32, i/32) })
	add("corner", func(i int) api.XY { return place(i%2*i*100, (1-i%2)*i*100) })
	add("facing", func(i int) api.XY { return place(i*100, (1-i%2*2)*(10000000-i*i)) })
	add("row", func(i int) api.XY { return place(3*i, -2*i) })
	return inputs
}

// expectLocallyDelaunay checks P6.14 and that each triangle and each side is as it must be.
func expectLocallyDelaunay(t *testing.T, m api.Mesh) {
	t.Helper()
	expectCounts(t, m)
	if err := mesh.Check(m); err != api.OK {
		t.Fatalf("Check: error %d", err)
	}
	_, at := plainSides(m.T)
	for _, l := range m.Lines {
		if len(m.T) > 0 && len(at[l]) == 0 {
			t.Fatalf("the line %v is no side", l)
		}
	}
	for s, list := range at {
		p, q := placeOf(m.V[s[0]]), placeOf(m.V[s[1]])
		if len(list) == 1 || slices.Contains(m.Lines, s) {
			continue
		}
		c, d := placeOf(m.V[third(m.T[list[0]], s)]), placeOf(m.V[third(m.T[list[1]], s)])
		if len(list) > 2 || plainSide(p, q, c)*plainSide(p, q, d) >= 0 || !plainLegal(p, q, c, d) {
			t.Fatalf("the side %v is between %v", s, list)
		}
	}
}

// R1, P6.4: as many vertices as are allowed, without and with lines.
func TestLarge(t *testing.T) {
	r := rand.New(rand.NewSource(2))
	for name, v := range largeInputs() {
		t.Run(name, func(t *testing.T) {
			m := build(t, v)
			expectLocallyDelaunay(t, m)
			expectLocallyDelaunay(t, build(t, v, randomLines(r, v, 20)...))
			if _, err := mesh.Insert(m, vertex(limit, limit, 0, 0)); err != api.ErrArg {
				t.Errorf("Insert: error %d", err)
			}
		})
	}
}

// R1, P6.4: with all sides of another triangulation as lines, that is the only one.
func TestAllSidesAsLines(t *testing.T) {
	for name, v := range largeInputs() {
		t.Run(name, func(t *testing.T) {
			high := slices.Clone(v)
			for i := range high {
				high[i].Y *= 20
			}
			other := build(t, high)
			lines, err := mesh.Sides(other)
			if err != api.OK {
				t.Fatalf("Sides: error %d", err)
			}
			slices.Reverse(lines)
			m := build(t, v, lines...)
			if !slices.Equal(m.T, other.T) {
				t.Error("the triangles are other ones")
			}
			if err := mesh.Check(m); err != api.OK {
				t.Errorf("Check: error %d", err)
			}
		})
	}
}

// R1, P6.4: all lines that there are.
func TestAllPairsAsLines(t *testing.T) {
	for _, name := range []string{"facing", "row"} {
		v := largeInputs()[name]
		var lines []line
		for b := range v {
			for a := range b {
				lines = append(lines, line{a, b})
			}
		}
		if _, err := mesh.Build(v, lines); err != api.ErrCross {
			t.Errorf("%s: error %d", name, err)
		}
		if _, err := mesh.Build(v, append(lines, lines[0])); err != api.ErrLine {
			t.Errorf("%s with a line twice: error %d", name, err)
		}
	}
}

// R1, P6.7 to P6.11: what large meshes are asked.
func TestLargeAnswers(t *testing.T) {
	for name, v := range largeInputs() {
		t.Run(name, func(t *testing.T) {
			m := build(t, v)
			for _, p := range v[:3] {
				if i, err := mesh.Find(m, placeOf(p)); i != max(0, plainFind(m, spotOf(placeOf(p)))) || (err == api.OK) != (len(m.T) > 0) {
					t.Errorf("Find of %v = %d, error %d", p, i, err)
				}
			}
			expectContours(t, m, 50, false)
			expectContours(t, m, 150, true)
			expectProfile(t, m, placeOf(v[0]), placeOf(v[len(v)-1]))
			lo, hi, err := mesh.Volume(m, 7)
			if err != api.OK || !isNumber(lo, plainVolume(m, 7, false)) || !isNumber(hi, plainVolume(m, 7, true)) {
				t.Errorf("Volume = %s, %s, error %d", textOf(lo), textOf(hi), err)
			}
		})
	}
}

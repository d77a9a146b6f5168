package mesh_test

import (
	"math/rand"
	"slices"
	"testing"

	"lidar/api"
	"lidar/mesh"
)

// behind returns a mesh with more in the memory behind its lists, and a copy of this.
func behind(m api.Mesh) (api.Mesh, func() api.Mesh) {
	all := api.Mesh{V: append(slices.Clip(m.V), vertex(0, 0, 1, 0), vertex(1<<40, 0, 0, 0)), T: append(slices.Clip(m.T), three{-1, 7, 7}), Lines: append(slices.Clip(m.Lines), line{-1, -1})}
	m = api.Mesh{V: all.V[:len(m.V)], T: all.T[:len(m.T)], Lines: all.Lines[:len(m.Lines)]}
	return m, func() api.Mesh { return copyOf(all) }
}

// R4: arguments stay as they are, and what lies behind their ends is neither read nor written.
func TestArgumentsStay(t *testing.T) {
	r := rand.New(rand.NewSource(1))
	for range 200 {
		m, all := behind(randomMesh(t, r, 12))
		before := all()
		from, to := place(r.Intn(5), 0), place(r.Intn(5), 3)
		calls := map[string]func() api.Errno{
			"Border":   func() api.Errno { _, err := mesh.Border(m.V); return err },
			"Build":    func() api.Errno { _, err := mesh.Build(m.V, m.Lines); return err },
			"Check":    func() api.Errno { return mesh.Check(m) },
			"Insert":   func() api.Errno { _, err := mesh.Insert(m, vertex(123456789, 198765432, 0, 0)); return err },
			"Sides":    func() api.Errno { _, err := mesh.Sides(m); return err },
			"Area":     func() api.Errno { _, err := mesh.Area(m); return err },
			"Volume":   func() api.Errno { _, _, err := mesh.Volume(m, 3); return err },
			"Contours": func() api.Errno { _, err := mesh.Contours(m, 3, true); return err },
			"Profile":  func() api.Errno { _, err := mesh.Profile(m, from, to); return err },
		}
		for name, call := range calls {
			if err := call(); err != api.OK || !areEqual(all(), before) {
				t.Fatalf("%s, error %d, has made %v of %v", name, err, all(), before)
			}
		}
		for i := range m.V {
			if _, err := mesh.Remove(m, i); err == api.ErrMesh || !areEqual(all(), before) {
				t.Fatalf("Remove, error %d, has made %v of %v", err, all(), before)
			}
			if _, err := mesh.Around(m, i); err != api.OK || !areEqual(all(), before) {
				t.Fatalf("Around, error %d, has made %v of %v", err, all(), before)
			}
		}
	}
}

// R4: lines may have any order and direction, and keep them.
func TestLinesStay(t *testing.T) {
	lines := []line{{3, 2}, {1, 0}, {2, 0}}
	m := build(t, square(), lines...)
	if !slices.Equal(lines, []line{{3, 2}, {1, 0}, {2, 0}}) || !slices.Equal(m.Lines, []line{{0, 1}, {0, 2}, {2, 3}}) {
		t.Errorf("the lines are %v and %v", lines, m.Lines)
	}
}

// erase clears all memory of a mesh.
func erase(m api.Mesh) {
	clear(m.V[:cap(m.V)])
	clear(m.T[:cap(m.T)])
	clear(m.Lines[:cap(m.Lines)])
}

// R4: results share no memory with arguments.
func TestMeshesAreNew(t *testing.T) {
	r := rand.New(rand.NewSource(2))
	for range 200 {
		m := randomMesh(t, r, 12)
		before := copyOf(m)
		built := build(t, m.V, m.Lines...)
		inserted, err := mesh.Insert(m, vertex(123456789, 198765432, 0, 0))
		if err != api.OK {
			t.Fatalf("Insert: error %d", err)
		}
		erase(built)
		erase(inserted)
		for i := range m.V {
			if removed, err := mesh.Remove(m, i); err == api.OK {
				erase(removed)
			}
		}
		if sides, err := mesh.Sides(m); err == api.OK {
			clear(sides)
		}
		if !areEqual(m, before) {
			t.Fatalf("%v has become %v", before, m)
		}
	}
}

// R4: no two lists of a result share memory.
func TestCurvesAndStopsAreNew(t *testing.T) {
	r := rand.New(rand.NewSource(3))
	for range 300 {
		m := randomMesh(t, r, 30)
		curves := expectContours(t, m, r.Intn(10)-5, true)
		for i, c := range curves {
			clear(c.Sides[:cap(c.Sides)])
			for _, d := range curves[i+1:] {
				if slices.Contains(d.Sides, line{}) {
					t.Fatalf("two curves of %v share memory", m)
				}
			}
		}
	}
	m := build(t, []api.Vertex{vertex(0, 0, 3, 3), vertex(2, 0, 3, 3), vertex(0, 2, 4, 4)})
	stops := expectProfile(t, m, place(0, 0), place(0, 1))
	lo, hi, _ := mesh.Height(m, place(0, 1))
	low, high, _ := mesh.Volume(m, 0)
	for _, pair := range [][2]api.Rat{{lo, hi}, {low, high}, {stops[1].Lo, stops[1].Hi}, {stops[0].Lo, stops[0].Hi}} {
		before := textOf(pair[1])
		clear(pair[0].Num)
		clear(pair[0].Den)
		if textOf(pair[1]) != before {
			t.Errorf("two heights share memory: %s has become %s", before, textOf(pair[1]))
		}
	}
}

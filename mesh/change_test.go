package mesh_test

import (
	"math/rand"
	"slices"
	"testing"

	"lidar/api"
	"lidar/mesh"
)

// P6.5, P6.12
func TestInsert(t *testing.T) {
	r := rand.New(rand.NewSource(1))
	counts := map[api.Errno]int{}
	for range 3000 {
		kind := kinds[r.Intn(len(kinds))]
		old, p := randomVertices(r, kind, r.Intn(15)), kind(r)
		m, v := build(t, old, randomLines(r, old, r.Intn(10))...), vertex(p.X, p.Y, 3, 5)
		want, wantErr := mesh.Build(append(slices.Clone(m.V), v), m.Lines)
		got, err := mesh.Insert(m, v)
		if err != wantErr || !areEqual(got, want) {
			t.Fatalf("Insert of %v into %v = %v, error %d, want %v, error %d", v, m, got, err, want, wantErr)
		}
		counts[err]++
		if err != api.OK {
			continue
		}
		if again, err := mesh.Remove(got, len(m.V)); err != api.OK || !areEqual(again, m) {
			t.Fatalf("Remove of the last vertex of %v = %v, error %d, want %v", got, again, err, m)
		}
	}
	if counts[api.OK] < 1000 || counts[api.ErrSame] < 100 || counts[api.ErrCross] < 100 {
		t.Errorf("the errors are %v", counts)
	}
}

// P6.5: the errors of Insert are those of Build, in their order.
func TestInsertErrors(t *testing.T) {
	full := build(t, manyVertices(1024))
	crossed := build(t, square(), line{0, 3})
	for _, c := range []struct {
		m    api.Mesh
		v    api.Vertex
		want api.Errno
	}{
		{full, vertex(5, 5, 0, 0), api.ErrArg},
		{full, full.V[0], api.ErrArg},
		{full, badVertices()[0], api.ErrArg},
		{crossed, vertex(0, 0, 7, 7), api.ErrSame},
		{crossed, vertex(1, 1, 7, 7), api.ErrCross},
		{crossed, vertex(1, 1, 7, 6), api.ErrVertex},
		{crossed, vertex(limit, limit, limit, limit), api.OK},
	} {
		if m, err := mesh.Insert(c.m, c.v); err != c.want || err != api.OK && !areEqual(m, api.Mesh{}) {
			t.Errorf("Insert of %v = %v, error %d, want %d", c.v, m, err, c.want)
		}
	}
	for _, bad := range badVertices() {
		if m, err := mesh.Insert(crossed, bad); err != api.ErrVertex || !areEqual(m, api.Mesh{}) {
			t.Errorf("Insert of %v = %v, error %d", bad, m, err)
		}
	}
}

// plainRemove returns vertices and lines without vertex i, if it is not the end of a line.
func plainRemove(m api.Mesh, i int) ([]api.Vertex, []line, bool) {
	v := slices.Delete(slices.Clone(m.V), i, i+1)
	now := func(k int) int { return slices.Index(v, m.V[k]) }
	var lines []line
	for _, l := range m.Lines {
		if l[0] == i || l[1] == i {
			return nil, nil, false
		}
		lines = append(lines, line{now(l[0]), now(l[1])})
	}
	return v, lines, true
}

// P6.5
func TestRemove(t *testing.T) {
	r := rand.New(rand.NewSource(2))
	for range 500 {
		m := randomMesh(t, r, 15)
		for _, i := range []int{-1 << 63, -1, len(m.V), 1<<63 - 1} {
			if got, err := mesh.Remove(m, i); err != api.ErrArg || !areEqual(got, api.Mesh{}) {
				t.Fatalf("Remove of %d from %v = %v, error %d", i, m, got, err)
			}
		}
		for i := range m.V {
			want, wantErr := api.Mesh{}, api.ErrLine
			if v, lines, ok := plainRemove(m, i); ok {
				want, wantErr = build(t, v, lines...), api.OK
			}
			if got, err := mesh.Remove(m, i); err != wantErr || !areEqual(got, want) {
				t.Fatalf("Remove of %d from %v = %v, error %d, want %v, error %d", i, m, got, err, want, wantErr)
			}
		}
	}
}

// P6.6
func TestSidesAndAround(t *testing.T) {
	r := rand.New(rand.NewSource(3))
	for range 500 {
		m := randomMesh(t, r, 20)
		want, _ := plainSides(m.T)
		got, err := mesh.Sides(m)
		if err != api.OK || !slices.Equal(got, want) {
			t.Fatalf("Sides of %v = %v, error %d, want %v", m, got, err, want)
		}
		for i := range m.V {
			var others []int
			for k := range m.V {
				if slices.Contains(want, line{min(i, k), max(i, k)}) {
					others = append(others, k)
				}
			}
			if got, err := mesh.Around(m, i); err != api.OK || !slices.Equal(got, others) {
				t.Fatalf("Around %d of %v = %v, error %d, want %v", i, m, got, err, others)
			}
		}
		for _, i := range []int{-1 << 63, -1, len(m.V), 1<<63 - 1} {
			if got, err := mesh.Around(m, i); err != api.ErrArg || len(got) > 0 {
				t.Fatalf("Around %d of %v = %v, error %d", i, m, got, err)
			}
		}
	}
}

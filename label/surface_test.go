package label_test

import (
	"testing"

	"lidar/api"
	"lidar/label"
	"lidar/mesh"
)

// P7.6: the vertices are in ascending order of the Ids, whatever the order of the lists is.
func TestSurface(t *testing.T) {
	points := []api.Point{single(9, 20, 20, 4), between(2, 20, 0, 2, 5), single(7, 0, 20, 3), single(1, 0, 0, 1), single(5, 3, 3, 0)}
	m := surface(t, points, 9, 1, 7, 2)
	want, err := mesh.Build([]api.Vertex{{Z: api.Span{Lo: 1, Hi: 1}}, {X: 20, Z: api.Span{Lo: 2, Hi: 5}}, {Y: 20, Z: api.Span{Lo: 3, Hi: 3}}, {X: 20, Y: 20, Z: api.Span{Lo: 4, Hi: 4}}}, nil)
	if err != api.OK || !areEqual(m, want) {
		t.Errorf("Surface returns %v, not %v", m, want)
	}
	if m := surface(t, points, 9); len(m.V) != 1 || len(m.T) != 0 {
		t.Errorf("Surface of one point returns %v", m)
	}
	if m := surface(t, points); len(m.V) != 0 {
		t.Errorf("Surface of no points returns %v", m)
	}
}

// P7.7: the distance of a point and the bounds is at most Reach.
func TestFitsReach(t *testing.T) {
	m := surface(t, []api.Point{between(1, 0, 0, 0, 4), between(2, 100, 0, 0, 4), between(3, 0, 100, 10, 14)}, 1, 2, 3)
	r := example() // Reach 2, Slope 1000
	for _, c := range []struct {
		lo, hi int // of a point at (20, 25), over which the bounds are [2, 7]: the surfaces are at 5/2 and 13/2
		ok     bool
		far    int
	}{
		{2, 7, true, 0}, {5, 5, true, 0}, {7, 20, true, 0}, {-9, 2, true, 0}, {-9, 20, true, 0},
		{8, 8, true, 1}, {9, 12, true, 2}, {10, 12, false, 0}, {0, 1, true, 1}, {-5, 0, true, 2}, {-5, -1, false, 0},
	} {
		ok, far, err := label.Fits(m, between(9, 20, 25, c.lo, c.hi), r)
		if ok != c.ok || far != c.far || err != api.OK {
			t.Errorf("Fits of [%d, %d] returns %t, %d, error %d", c.lo, c.hi, ok, far, err)
		}
	}
}

// P7.7: the slope to each corner of the triangle is at most Slope, and heights at one place have a common one.
func TestFitsSlope(t *testing.T) {
	points := []api.Point{between(1, 0, 0, -2, 0), single(2, 40, 0, 0), single(3, 0, 40, 0), single(4, 40, 40, 500)}
	m := surface(t, points, 1, 2, 3, 4)
	for name, c := range map[string]struct {
		p     api.Point
		slope int
		ok    bool
		far   int
	}{
		"as steep as it may be":        {single(9, 3, 4, 5), 1000, true, 5},
		"a little steeper":             {single(9, 3, 4, 5), 999, false, 0},
		"upward, 1 to 2":               {single(9, 6, 8, 5), 500, true, 5},
		"upward, more than 1 to 2":     {single(9, 6, 8, 5), 499, false, 0},
		"from the top of a span":       {between(9, 3, 4, 5, 90), 1000, true, 5},
		"from the bottom of a span":    {between(9, 3, 4, -90, -7), 1000, true, 5},
		"below, too steep":             {between(9, 3, 4, -90, -8), 1000, false, 0},
		"to the second corner":         {single(9, 38, 1, 4), 1000, false, 0},
		"to the third corner":          {single(9, 1, 38, 4), 1000, false, 0},
		"no slope":                     {single(9, 3, 4, 0), 0, true, 0},
		"no slope, not level":          {single(9, 3, 4, 1), 0, false, 0},
		"at a corner":                  {between(9, 0, 0, 0, 5), 1000, true, 0},
		"over a corner":                {single(9, 0, 0, 1), 100000, false, 0},
		"on a side: the first of both": {single(9, 20, 20, 0), 1, true, 0}, // the other triangle has the corner at 500
		"in the other triangle":        {single(9, 21, 20, 12), 1000, false, 0},
		"outside":                      {single(9, -1, 0, 0), 100000, false, 0},
	} {
		r := example()
		r.Reach, r.Slope = 1000, c.slope
		ok, far, err := label.Fits(m, c.p, r)
		if ok != c.ok || far != c.far || err != api.OK {
			t.Errorf("%s: Fits returns %t, %d, error %d", name, ok, far, err)
		}
	}
}

// P7.7, R5: squares of slopes need more than 64 bits.
func TestFitsWide(t *testing.T) {
	m := surface(t, []api.Point{single(1, -limit, -limit, -limit), single(2, limit, -limit, -limit), single(3, -limit, limit, -limit)}, 1, 2, 3)
	r := example()
	r.Reach = 1000000
	for _, c := range []struct {
		up, slope int // at (0, 0), which is 2^28 * sqrt(2) away from all corners
		ok        bool
	}{
		{1000000, 3, true}, // 10^6 / 379625062 is 0.00263
		{1000000, 2, false},
		{759250, 2, true}, // 2 thousandths of the distance are 759250.12
		{759251, 2, false},
		{379625, 1, true},
		{379626, 1, false},
		{1000000, 100000, true},
		{1000001, 100000, false}, // Reach
	} {
		r.Slope = c.slope
		if ok, far, err := label.Fits(m, single(9, 0, 0, c.up-limit), r); ok != c.ok || ok && far != c.up || err != api.OK {
			t.Errorf("Fits %d up with the slope %d returns %t, %d, error %d", c.up, c.slope, ok, far, err)
		}
	}
	r.Slope = 100000
	m = surface(t, []api.Point{single(1, -limit, -limit, limit), single(2, limit, -limit, limit), single(3, -limit, limit, -limit)}, 1, 2, 3)
	for _, c := range []struct {
		x  int // on the slope between (0, 0) and (-limit, limit), where the height is that of -x
		ok bool
	}{
		{-limit, true}, {-limit + 1, true}, {0, true},
	} {
		if ok, far, err := label.Fits(m, single(9, c.x, -c.x, c.x), r); ok != c.ok || far != 0 || err != api.OK {
			t.Errorf("Fits at %d returns %t, %d, error %d", c.x, ok, far, err)
		}
	}
}

// P7.10: the heights above the bounds of the surface.
func TestRise(t *testing.T) {
	m := surface(t, []api.Point{between(1, 0, 0, 0, 4), between(2, 100, 0, 0, 4), between(3, 0, 100, 10, 14)}, 1, 2, 3)
	for _, c := range []struct {
		p    api.Point
		want api.Span
		ok   bool
	}{
		{single(9, 20, 25, 10), api.Span{Lo: 3, Hi: 8}, true}, // the bounds are [2, 7]
		{between(9, 20, 25, 1, 30), api.Span{Lo: -6, Hi: 28}, true},
		{single(9, 0, 0, 0), api.Span{Lo: -4, Hi: 0}, true},
		{single(9, 50, 50, limit), api.Span{Lo: limit - 9, Hi: limit - 5}, true},
		{single(9, 51, 50, 0), api.Span{}, false},
		{single(9, -limit, limit, 0), api.Span{}, false},
	} {
		if rise, ok, err := label.Rise(m, c.p); rise != c.want || ok != c.ok || err != api.OK {
			t.Errorf("Rise of %v returns %v, %t, error %d", c.p, rise, ok, err)
		}
	}
	low := surface(t, []api.Point{single(1, -limit, -limit, -limit), single(2, limit, -limit, -limit), between(3, 0, limit, -limit, limit)}, 1, 2, 3)
	want := api.Span{Lo: -2 * limit, Hi: 2 * limit}
	if rise, ok, err := label.Rise(low, between(9, 0, limit, -limit, limit)); !ok || rise != want || err != api.OK {
		t.Errorf("Rise at the limits returns %v, %t, error %d", rise, ok, err)
	}
}

// P7.7, P7.10: only the mesh decides about ErrMesh; the points need not be anywhere near it.
func TestOtherMeshes(t *testing.T) {
	lined, err := mesh.Build([]api.Vertex{{}, {X: 4}, {Y: 4}, {X: 4, Y: 4}}, [][2]int{{0, 3}})
	if err != api.OK {
		t.Fatalf("Build: error %d", err)
	}
	if ok, far, err := label.Fits(lined, single(1, 2, 2, 1), example()); !ok || far != 1 || err != api.OK {
		t.Errorf("Fits on a breakline returns %t, %d, error %d", ok, far, err)
	}
	for name, spoil := range map[string]func(*api.Mesh){
		"an index out of range": func(m *api.Mesh) { m.T[0][2] = 99 },
		"a negative index":      func(m *api.Mesh) { m.T[0][0] = -1 },
		"triangles exchanged":   func(m *api.Mesh) { m.T[0], m.T[1] = m.T[1], m.T[0] },
		"no vertices":           func(m *api.Mesh) { m.V = nil },
		"a vertex out of range": func(m *api.Mesh) { m.V[0].X = limit + 1 },
	} {
		m := surface(t, frame(), 1, 2, 3, 4)
		spoil(&m)
		for _, p := range []api.Point{single(1, 2, 2, 0), single(1, -5, -5, 0)} {
			if ok, far, err := label.Fits(m, p, example()); ok || far != 0 || err != api.ErrMesh {
				t.Errorf("%s: Fits returns %t, %d, error %d", name, ok, far, err)
			}
			if rise, ok, err := label.Rise(m, p); ok || rise != (api.Span{}) || err != api.ErrMesh {
				t.Errorf("%s: Rise returns %v, %t, error %d", name, rise, ok, err)
			}
		}
	}
}

package plant_test

import (
	"cmp"
	"math/rand"
	"slices"
	"testing"

	"lidar/api"
	"lidar/mesh"
	"lidar/plant"
)

func relief(t *testing.T, points []api.Point, breaks [][2]int) api.Mesh {
	t.Helper()
	m, err := plant.Relief(points, breaks)
	if err != api.OK || mesh.Check(m) != api.OK {
		t.Fatalf("Relief of %v with %v: %v, error %d", points, breaks, m, err)
	}
	return m
}

// plainRelief builds the mesh with all lines that were taken and one more, again and again.
func plainRelief(points []api.Point, breaks [][2]int) api.Mesh {
	var ids []int
	var v []api.Vertex
	for _, p := range sortedById(points) {
		isHigher := func(q api.Point) bool {
			return q.Class == api.Ground && q.X == p.X && q.Y == p.Y && cmp.Or(cmp.Compare(q.Z.Hi, p.Z.Hi), cmp.Compare(q.Id, p.Id)) < 0
		}
		if p.Class == api.Ground && !slices.ContainsFunc(points, isHigher) {
			ids, v = append(ids, p.Id), append(v, api.Vertex{X: p.X, Y: p.Y, Z: p.Z})
		}
	}
	var lines [][2]int
	for _, b := range breaks {
		more := append(slices.Clone(lines), [2]int{slices.Index(ids, b[0]), slices.Index(ids, b[1])})
		if _, err := mesh.Build(v, more); err == api.OK {
			lines = more
		}
	}
	m, _ := mesh.Build(v, lines)
	return m
}

// P10.9
func TestRelief(t *testing.T) {
	r := rand.New(rand.NewSource(41))
	lines, breaks := 0, 0
	for range 300 {
		points := randomPoints(r, r.Intn(30))
		side := 2 + r.Intn(20)
		for i := range points {
			points[i].X, points[i].Y = r.Intn(side), r.Intn(side)
			points[i].Class = []int{api.Ground, api.Ground, api.Ground, api.Roof, 3, -5}[r.Intn(6)]
		}
		var pairs [][2]int
		for range r.Intn(20) {
			if len(points) > 0 {
				pairs = append(pairs, [2]int{points[r.Intn(len(points))].Id, points[r.Intn(len(points))].Id})
			}
			if r.Intn(9) == 0 {
				pairs = append(pairs, [2]int{r.Intn(9), -1})
			}
		}
		m := relief(t, points, pairs)
		expect(t, "the relief", m, plainRelief(points, pairs))
		expect(t, "the relief of the points in another order", relief(t, shuffled(r, points), pairs), m)
		lines, breaks = lines+len(m.Lines), breaks+len(pairs)
	}
	if lines < breaks/10 || lines > breaks/2 {
		t.Errorf("%d of %d breaklines are lines", lines, breaks)
	}
}

// grid returns ground points at the corners of squares, with the Ids 10, 11, .., along x first.
func grid(nx, ny int) []api.Point {
	var points []api.Point
	for i := range nx * ny {
		points = append(points, point(10+i, 2*(i%nx), 2*(i/nx), i, api.Ground))
	}
	return points
}

// P10.9: which breaklines become lines, and of which points.
func TestBreaklines(t *testing.T) {
	over := func(p api.Point, id, lo, hi int) api.Point {
		p.Id, p.Z = id, api.Span{Lo: lo, Hi: hi}
		return p
	}
	square := grid(2, 2)
	other := slices.Clone(square)
	other[3].Class = api.Plant
	for name, c := range map[string]struct {
		points []api.Point
		breaks [][2]int
		n      int // how many vertices
		lines  [][2]int
	}{
		"nothing":                  {nil, [][2]int{{1, 2}}, 0, nil},
		"no breaklines":            {square, nil, 4, nil},
		"both directions":          {square, [][2]int{{13, 10}, {10, 11}}, 4, [][2]int{{0, 1}, {0, 3}}},
		"the first of two":         {square, [][2]int{{12, 11}, {10, 13}}, 4, [][2]int{{1, 2}}},
		"the same again":           {square, [][2]int{{10, 13}, {13, 10}, {10, 13}, {12, 13}}, 4, [][2]int{{0, 3}, {2, 3}}},
		"one point":                {square, [][2]int{{10, 10}, {12, 13}}, 4, [][2]int{{2, 3}}},
		"no such points":           {square, [][2]int{{10, 9}, {14, 10}, {-1, 10}, {0, 1}, {12, 13}}, 4, [][2]int{{2, 3}}},
		"other classes":            {other, [][2]int{{10, 13}, {11, 12}}, 3, [][2]int{{1, 2}}},
		"through a point":          {grid(3, 1), [][2]int{{10, 12}, {11, 12}}, 3, [][2]int{{1, 2}}},
		"along a line":             {grid(3, 1), [][2]int{{10, 11}, {10, 12}, {11, 12}}, 3, [][2]int{{0, 1}, {1, 2}}},
		"a lower point":            {append(square, over(square[3], 14, -9, 2)), [][2]int{{10, 13}, {10, 14}}, 4, [][2]int{{0, 3}}},
		"a higher point":           {append(square, over(square[3], 14, -9, 4)), [][2]int{{10, 14}, {10, 13}}, 4, [][2]int{{0, 3}}},
		"a later point, as low":    {append(square, over(square[3], 14, -9, 3)), [][2]int{{10, 14}, {10, 13}}, 4, [][2]int{{0, 3}}},
		"an earlier point, as low": {append(square, over(square[3], 9, 3, 3)), [][2]int{{10, 13}, {10, 9}}, 4, [][2]int{{0, 1}}},
	} {
		m := relief(t, c.points, c.breaks)
		if len(m.V) != c.n || !same(m.Lines, c.lines) {
			t.Errorf("%s: %v", name, m)
		}
		expect(t, name, m, plainRelief(c.points, c.breaks))
	}
	lower := relief(t, append(square, over(square[3], 14, -9, 2)), nil)
	expect(t, "the vertex of the lower point", lower.V[3], api.Vertex{X: 2, Y: 2, Z: api.Span{Lo: -9, Hi: 2}})
	echo := slices.Clone(square)
	echo[1].Of = 3
	expect(t, "the vertices with one that is not the last echo", len(relief(t, echo, nil).V), 4)
}

// P10.9: errors in their order, and the limits.
func TestReliefErrors(t *testing.T) {
	pairs := func(n int) [][2]int { return slices.Repeat([][2]int{{10, 11}}, n) }
	for _, points := range badPoints() {
		for _, n := range []int{0, 65} {
			if m, err := plant.Relief(points, pairs(n)); err != api.ErrPoint || !same(m, api.Mesh{}) {
				t.Errorf("Relief of %v: %v, error %d", points, m, err)
			}
		}
	}
	if m, err := plant.Relief(grid(2, 2), pairs(65)); err != api.ErrArg || !same(m, api.Mesh{}) {
		t.Errorf("Relief with 65 breaklines: %v, error %d", m, err)
	}
	expect(t, "the lines of 64 breaklines", relief(t, grid(2, 2), pairs(64)).Lines, [][2]int{{0, 1}})
	many := grid(32, 32)
	var rows [][2]int
	for i := range 32 {
		rows = append(rows, [2]int{10 + 32*i, 11 + 32*i}, [2]int{10 + 32*i, 43 + 32*i})
	}
	if m := relief(t, many, rows); len(m.V) != 1024 || len(m.Lines) != 63 {
		t.Errorf("Relief of 1024 points has %d vertices and %d lines", len(m.V), len(m.Lines))
	}
}

package mesh_test

import (
	"math/rand"
	"slices"
	"testing"

	"lidar/api"
	"lidar/mesh"
)

// isCrossed reports whether a contour line runs between the ends of a side.
func isCrossed(m api.Mesh, s line, level int, high bool) bool {
	return (heightOf(m.V[s[0]], high) > level) != (heightOf(m.V[s[1]], high) > level)
}

func compareLines(a, b line) int {
	return slices.Compare(a[:], b[:])
}

// plainNext returns, for each crossed side, the sides to which triangles lead from there.
func plainNext(m api.Mesh, level int, high bool) map[line][]line {
	next := map[line][]line{}
	for _, a := range m.T {
		var crossed []line
		for k, p := range a {
			q := a[(k+1)%3]
			if s := (line{min(p, q), max(p, q)}); isCrossed(m, s, level, high) {
				crossed = append(crossed, s)
			}
		}
		if len(crossed) == 2 {
			next[crossed[0]] = append(next[crossed[0]], crossed[1])
			next[crossed[1]] = append(next[crossed[1]], crossed[0])
		}
	}
	return next
}

// plainCurve takes the curve that begins with a side out of next, and goes on to the lesser side that is next to it.
func plainCurve(next map[line][]line, first line) []line {
	list := []line{first}
	for at := first; ; {
		slices.SortFunc(next[at], compareLines)
		i := slices.IndexFunc(next[at], func(s line) bool { return !slices.Contains(list, s) })
		if i < 0 {
			break
		}
		at = next[at][i]
		list = append(list, at)
	}
	for _, s := range list {
		delete(next, s)
	}
	return list
}

// plainContours finds the open curves first: their ends are sides of one triangle alone.
func plainContours(m api.Mesh, level int, high bool) []api.Curve {
	next := plainNext(m, level, high)
	sides, _ := plainSides(m.T)
	var curves []api.Curve
	for _, s := range sides {
		if len(next[s]) == 1 {
			curves = append(curves, api.Curve{Sides: plainCurve(next, s)})
		}
	}
	for _, s := range sides {
		if len(next[s]) == 2 {
			curves = append(curves, api.Curve{Closed: true, Sides: plainCurve(next, s)})
		}
	}
	slices.SortFunc(curves, func(a, b api.Curve) int { return compareLines(a.Sides[0], b.Sides[0]) })
	return curves
}

func expectContours(t *testing.T, m api.Mesh, level int, high bool) []api.Curve {
	t.Helper()
	got, err := mesh.Contours(m, level, high)
	want := plainContours(m, level, high)
	same := slices.EqualFunc(got, want, func(a, b api.Curve) bool {
		return a.Closed == b.Closed && slices.Equal(a.Sides, b.Sides)
	})
	if err != api.OK || !same {
		t.Fatalf("Contours of %v at %d, %t = %v, error %d, want %v", m, level, high, got, err, want)
	}
	return got
}

// P6.9
func TestContours(t *testing.T) {
	r := rand.New(rand.NewSource(1))
	open, closed := 0, 0
	for range 1500 {
		m := randomMesh(t, r, 40)
		for _, c := range expectContours(t, m, r.Intn(24)-12, r.Intn(2) == 0) {
			if c.Closed {
				closed++
			} else {
				open++
			}
		}
	}
	if open < 1000 || closed < 200 {
		t.Errorf("there are %d open and %d closed curves", open, closed)
	}
}

// P6.9: example 4, a hill, and what is above the level.
func TestContourExamples(t *testing.T) {
	v := square()
	v[1].Z, v[2].Z = api.Span{}, api.Span{}
	m := build(t, v)
	expect := func(m api.Mesh, level int, high bool, want ...api.Curve) {
		t.Helper()
		got, err := mesh.Contours(m, level, high)
		same := slices.EqualFunc(got, want, func(a, b api.Curve) bool {
			return a.Closed == b.Closed && slices.Equal(a.Sides, b.Sides)
		})
		if err != api.OK || !same {
			t.Errorf("Contours at %d, %t = %v, error %d, want %v", level, high, got, err, want)
		}
	}
	corner := api.Curve{Sides: []line{{1, 3}, {2, 3}}}
	expect(m, 4, false, corner)
	expect(m, 0, false, corner)
	expect(m, 9, false, corner)
	expect(m, -1, false)
	expect(m, 10, false)
	expect(m, limit, true)
	expect(m, -limit, true)
	hill := build(t, append(square(), vertex(1, 1, 100, 200)))
	around := api.Curve{Closed: true, Sides: []line{{0, 4}, {1, 4}, {3, 4}, {2, 4}}}
	expect(hill, 50, true, around)
	expect(hill, 99, false, around)
	expect(hill, 100, false)
	expect(hill, 100, true, around)
	two := build(t, append(square(), vertex(1, 1, -100, -100)))
	expect(two, 5, true, api.Curve{Sides: []line{{0, 2}, {2, 4}, {3, 4}, {1, 3}}})
	expect(build(t, onGround(place(0, 0), place(1, 1))), 0, true)
}

// P6.9, P6.10: a level that is not in range.
func TestLevels(t *testing.T) {
	for _, m := range []api.Mesh{{}, build(t, square())} {
		for _, level := range []int{-1 << 63, -limit - 1, limit + 1, 1<<63 - 1} {
			for _, high := range []bool{false, true} {
				if c, err := mesh.Contours(m, level, high); err != api.ErrArg || len(c) > 0 {
					t.Errorf("Contours at %d = %v, error %d", level, c, err)
				}
				if x, y, err := mesh.Crossing(m, line{1, 0}, level, high); err != api.ErrArg || !isZero(x) || !isZero(y) {
					t.Errorf("Crossing at %d = %v, %v, error %d", level, x, y, err)
				}
			}
		}
	}
}

func expectCrossing(t *testing.T, m api.Mesh, s line, level int, high bool) {
	t.Helper()
	p, q := m.V[s[0]], m.V[s[1]]
	z, rise := heightOf(p, high), heightOf(q, high)-heightOf(p, high)
	part := over(minus(half(2*level+1), whole(z)), whole(rise))
	if part.Sign() <= 0 || part.Cmp(whole(1)) >= 0 { // P6.17
		t.Fatalf("%v is crossed at %s", s, part)
	}
	x, y, err := mesh.Crossing(m, s, level, high)
	wantX, wantY := plus(whole(p.X), times(part, whole(q.X-p.X))), plus(whole(p.Y), times(part, whole(q.Y-p.Y)))
	if err != api.OK || !isNumber(x, wantX) || !isNumber(y, wantY) {
		t.Fatalf("Crossing of %v in %v at %d, %t = %s, %s, error %d, want %s, %s", s, m, level, high, textOf(x), textOf(y), err, wantX, wantY)
	}
}

// P6.10, P6.17: each pair of indexes either is in one curve, and has a crossing, or has its error.
func TestCrossings(t *testing.T) {
	r := rand.New(rand.NewSource(2))
	for range 300 {
		m := randomMesh(t, r, 12)
		level, high := r.Intn(24)-12, r.Intn(2) == 0
		curves, err := mesh.Contours(m, level, high)
		if err != api.OK {
			t.Fatalf("Contours of %v: error %d", m, err)
		}
		var crossed []line
		for _, c := range curves {
			crossed = append(crossed, c.Sides...)
		}
		for a := -1; a <= len(m.V); a++ {
			for b := -1; b <= len(m.V); b++ {
				if slices.Contains(crossed, line{a, b}) {
					expectCrossing(t, m, line{a, b}, level, high)
				} else if x, y, err := mesh.Crossing(m, line{a, b}, level, high); err != api.ErrLine || !isZero(x) || !isZero(y) {
					t.Fatalf("Crossing of %d, %d in %v at %d, %t = %v, %v, error %d", a, b, m, level, high, x, y, err)
				}
			}
		}
		sides, _ := plainSides(m.T)
		crossing := slices.DeleteFunc(sides, func(s line) bool { return !isCrossed(m, s, level, high) })
		slices.SortFunc(crossed, compareLines)
		if !slices.Equal(crossed, crossing) {
			t.Fatalf("the curves of %v at %d, %t have the sides %v, want %v", m, level, high, crossed, crossing)
		}
	}
}

// P6.10: example 4, and sides and heights at their limits.
func TestCrossingExamples(t *testing.T) {
	v := square()
	v[1].Z, v[2].Z = api.Span{}, api.Span{}
	if x, y, err := mesh.Crossing(build(t, v), line{1, 3}, 4, false); err != api.OK || textOf(x) != "2" || textOf(y) != "9/10" {
		t.Errorf("Crossing = %s, %s, error %d", textOf(x), textOf(y), err)
	}
	for _, up := range []int{-1, 1} {
		m := build(t, []api.Vertex{
			{X: -limit, Y: limit, Z: api.Span{Lo: -limit, Hi: -limit}},
			{X: limit, Y: -limit, Z: api.Span{Lo: limit, Hi: limit}},
			{X: up * limit, Y: up * limit, Z: api.Span{Lo: -limit, Hi: limit}},
		})
		for _, level := range []int{-limit, -limit + 1, -1, 0, 1, 12345, limit - 1} {
			expectCrossing(t, m, line{0, 1}, level, false)
			expectCrossing(t, m, line{0, 1}, level, true)
			expectCrossing(t, m, line{1, 2}, level, false)
			expectCrossing(t, m, line{0, 2}, level, true)
		}
		for _, s := range []line{{1, 0}, {0, 0}, {0, 3}, {-1, 0}, {0, 1<<63 - 1}} {
			if _, _, err := mesh.Crossing(m, s, 0, false); err != api.ErrLine {
				t.Errorf("Crossing of %v: error %d", s, err)
			}
		}
	}
	row := build(t, []api.Vertex{vertex(0, 0, 0, 0), vertex(1, 0, 9, 9)}, line{0, 1}) // a line that is no side
	if _, _, err := mesh.Crossing(row, line{0, 1}, 4, false); err != api.ErrLine {
		t.Errorf("Crossing of a line: error %d", err)
	}
}

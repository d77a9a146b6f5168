package mesh_test

import (
	"cmp"
	"math/big"
	"math/rand"
	"slices"
	"testing"

	"lidar/api"
	"lidar/exact"
	"lidar/mesh"
)

const limit = 1 << 28 // of coordinates and heights

type (
	line  = [2]int
	three = [3]int
)

func place(x, y int) api.XY {
	return api.XY{X: x, Y: y}
}

func vertex(x, y, lo, hi int) api.Vertex {
	return api.Vertex{X: x, Y: y, Z: api.Span{Lo: lo, Hi: hi}}
}

// onGround returns vertices of the height 0.
func onGround(places ...api.XY) []api.Vertex {
	var v []api.Vertex
	for _, p := range places {
		v = append(v, vertex(p.X, p.Y, 0, 0))
	}
	return v
}

func placeOf(v api.Vertex) api.XY {
	return place(v.X, v.Y)
}

// square is the square of the examples.
func square() []api.Vertex {
	return []api.Vertex{vertex(0, 0, 0, 0), vertex(2, 0, 0, 1), vertex(0, 2, 4, 6), vertex(2, 2, 10, 10)}
}

func build(t *testing.T, v []api.Vertex, lines ...line) api.Mesh {
	t.Helper()
	m, err := mesh.Build(v, lines)
	if err != api.OK {
		t.Fatalf("Build of %v with the lines %v: error %d", v, lines, err)
	}
	return m
}

// kinds say how random vertices lie: few places with many on one line or circle, all on one line, on two lines, on one circle, anywhere, and on the limits.
var kinds = []func(r *rand.Rand) api.XY{
	func(r *rand.Rand) api.XY { return place(r.Intn(4), r.Intn(4)) },
	func(r *rand.Rand) api.XY { return place(r.Intn(7)-3, r.Intn(7)-3) },
	func(r *rand.Rand) api.XY { x := r.Intn(40); return place(3*x-5, 20-2*x) },
	func(r *rand.Rand) api.XY { return place(7, r.Intn(30)) },
	func(r *rand.Rand) api.XY { return place(r.Intn(2)*3, r.Intn(12)) },
	onCircle,
	func(r *rand.Rand) api.XY { return place(r.Intn(1000), r.Intn(1000)) },
	func(r *rand.Rand) api.XY { return place(randomCoordinate(r), randomCoordinate(r)) },
	func(r *rand.Rand) api.XY { return place((2*r.Intn(2)-1)*limit, randomCoordinate(r)) },
	func(r *rand.Rand) api.XY { return place((r.Intn(3)-1)*limit, (r.Intn(3)-1)*limit) },
}

func randomCoordinate(r *rand.Rand) int {
	return r.Intn(2*limit+1) - limit
}

// onCircle returns one of the 36 places at the distance 65 from (2, 3).
func onCircle(r *rand.Rand) api.XY {
	for {
		x, y := r.Intn(131)-65, r.Intn(131)-65
		if x*x+y*y == 65*65 {
			return place(x+2, y+3)
		}
	}
}

// randomVertices returns at most n vertices at different places, with random heights.
func randomVertices(r *rand.Rand, kind func(r *rand.Rand) api.XY, n int) []api.Vertex {
	var v []api.Vertex
	taken := map[api.XY]bool{}
	for range n {
		p := kind(r)
		if !taken[p] {
			lo := r.Intn(20) - 10
			v = append(v, vertex(p.X, p.Y, lo, lo+r.Intn(5)))
		}
		taken[p] = true
	}
	return v
}

// randomLines returns lines, at most n, with which a mesh can be built.
func randomLines(r *rand.Rand, v []api.Vertex, n int) []line {
	var lines []line
	for range n {
		if len(v) < 2 {
			break
		}
		if more := append(slices.Clip(lines), line{r.Intn(len(v)), r.Intn(len(v))}); plainLineError(v, more) == api.OK {
			lines = more
		}
	}
	return lines
}

// randomMesh returns a mesh of any kind, with or without lines.
func randomMesh(t *testing.T, r *rand.Rand, n int) api.Mesh {
	t.Helper()
	v := randomVertices(r, kinds[r.Intn(len(kinds))], r.Intn(n+1))
	return build(t, v, randomLines(r, v, r.Intn(2)*r.Intn(n))...)
}

func whole(n int) *big.Rat {
	return new(big.Rat).SetInt64(int64(n))
}

func plus(x, y *big.Rat) *big.Rat {
	return new(big.Rat).Add(x, y)
}

func minus(x, y *big.Rat) *big.Rat {
	return new(big.Rat).Sub(x, y)
}

func times(x, y *big.Rat) *big.Rat {
	return new(big.Rat).Mul(x, y)
}

func over(x, y *big.Rat) *big.Rat {
	return new(big.Rat).Quo(x, y)
}

func half(n int) *big.Rat {
	return big.NewRat(int64(n), 2)
}

// words returns the words of a number that is not negative.
func words(n *big.Int) []uint32 {
	var list []uint32
	for rest := new(big.Int).Set(n); rest.Sign() > 0; rest.Rsh(rest, 32) {
		list = append(list, uint32(rest.Uint64()))
	}
	return list
}

// isNumber reports whether x is the canonical value of v.
func isNumber(x api.Rat, v *big.Rat) bool {
	var den []uint32
	if !v.IsInt() {
		den = words(v.Denom())
	}
	return x.Neg == (v.Sign() < 0) && slices.Equal(x.Num, words(new(big.Int).Abs(v.Num()))) && slices.Equal(x.Den, den)
}

func isZero(x api.Rat) bool {
	return !x.Neg && len(x.Num) == 0 && len(x.Den) == 0
}

func textOf(x api.Rat) string {
	s, _ := exact.Text(x)
	return s
}

// value returns the number that x denotes.
func value(t *testing.T, x api.Rat) *big.Rat {
	t.Helper()
	v, ok := new(big.Rat).SetString(textOf(x))
	if !ok {
		t.Fatalf("%v has the text %s", x, textOf(x))
	}
	return v
}

// spot is any place of the plane.
type spot struct {
	x, y *big.Rat
}

func spotOf(p api.XY) spot {
	return spot{whole(p.X), whole(p.Y)}
}

// plainTurn is positive if c lies to the left of the line from a to b; it is twice the area of the triangle.
func plainTurn(a, b, c spot) *big.Rat {
	return minus(times(minus(b.x, a.x), minus(c.y, a.y)), times(minus(b.y, a.y), minus(c.x, a.x)))
}

// plainSide is the sign of plainTurn. Within the limits, its numbers fit into an int.
func plainSide(a, b, c api.XY) int {
	return cmp.Compare((b.X-a.X)*(c.Y-a.Y), (b.Y-a.Y)*(c.X-a.X))
}

// square2 returns the square of the distance from (0, 0).
func square2(p spot) *big.Rat {
	return plus(times(p.x, p.x), times(p.y, p.y))
}

// plainInside is 1 if d lies in the circle through a, b and c, 0 if it lies on it, and -1 if it lies outside: it compares the distances from the center.
func plainInside(a, b, c, d api.XY) int {
	p, q, r, s := spotOf(a), spotOf(b), spotOf(c), spotOf(d)
	det := times(whole(2), plainTurn(p, q, r))
	first, second := minus(square2(q), square2(p)), minus(square2(r), square2(p))
	center := spot{
		over(minus(times(first, minus(r.y, p.y)), times(second, minus(q.y, p.y))), det),
		over(minus(times(second, minus(q.x, p.x)), times(first, minus(r.x, p.x))), det),
	}
	radius := square2(spot{minus(p.x, center.x), minus(p.y, center.y)})
	return radius.Cmp(square2(spot{minus(s.x, center.x), minus(s.y, center.y)}))
}

// before reports whether p comes before q in the order of places.
func before(p, q api.XY) bool {
	return p.X < q.X || p.X == q.X && p.Y < q.Y
}

// plainLegal reports whether a side from a to b between c and d is legal.
func plainLegal(a, b, c, d api.XY) bool {
	if inside := plainInside(a, b, c, d); inside != 0 {
		return inside < 0
	}
	first := func(p api.XY) bool {
		return !before(a, p) && !before(b, p) && !before(c, p) && !before(d, p)
	}
	return first(c) || first(d)
}

// plainOn reports whether p lies on the segment from a to b, its ends included.
func plainOn(a, b, p api.XY) bool {
	return plainSide(a, b, p) == 0 && min(a.X, b.X) <= p.X && p.X <= max(a.X, b.X) && min(a.Y, b.Y) <= p.Y && p.Y <= max(a.Y, b.Y)
}

// plainMeet reports whether two segments have a place in common.
func plainMeet(a, b, c, d api.XY) bool {
	if plainOn(a, b, c) || plainOn(a, b, d) || plainOn(c, d, a) || plainOn(c, d, b) {
		return true
	}
	return plainSide(a, b, c)*plainSide(a, b, d) < 0 && plainSide(c, d, a)*plainSide(c, d, b) < 0
}

// plainLineError returns the error of lines between valid vertices.
func plainLineError(v []api.Vertex, lines []line) api.Errno {
	taken := map[line]bool{}
	for _, l := range lines {
		a, b := min(l[0], l[1]), max(l[0], l[1])
		if a < 0 || b >= len(v) || a == b || taken[line{a, b}] {
			return api.ErrLine
		}
		taken[line{a, b}] = true
	}
	for i, l := range lines {
		for k := range v {
			if k != l[0] && k != l[1] && plainOn(placeOf(v[l[0]]), placeOf(v[l[1]]), placeOf(v[k])) {
				return api.ErrCross
			}
		}
		for _, m := range lines[:i] {
			common := m[0] == l[0] || m[0] == l[1] || m[1] == l[0] || m[1] == l[1]
			if !common && plainMeet(placeOf(v[l[0]]), placeOf(v[l[1]]), placeOf(v[m[0]]), placeOf(v[m[1]])) {
				return api.ErrCross
			}
		}
	}
	return api.OK
}

// plainLines returns lines as they are in a canonical mesh.
func plainLines(lines []line) []line {
	var list []line
	for _, l := range lines {
		list = append(list, line{min(l[0], l[1]), max(l[0], l[1])})
	}
	slices.SortFunc(list, func(a, b line) int { return slices.Compare(a[:], b[:]) })
	return list
}

// plainSides returns the sides of triangles in ascending order, with the triangles at each.
func plainSides(triangles []three) ([]line, map[line][]int) {
	at := map[line][]int{}
	for i, t := range triangles {
		for k, a := range t {
			b := t[(k+1)%3]
			s := line{min(a, b), max(a, b)}
			at[s] = append(at[s], i)
		}
	}
	var list []line
	for s := range at {
		list = append(list, s)
	}
	return plainLines(list), at
}

// isFlat reports whether all vertices lie on one line.
func isFlat(v []api.Vertex) bool {
	return len(v) < 3 || !slices.ContainsFunc(v, func(p api.Vertex) bool {
		return plainSide(placeOf(v[0]), placeOf(v[1]), placeOf(p)) != 0
	})
}

// plainBorder goes around the vertices like a thread.
func plainBorder(v []api.Vertex) []int {
	if len(v) == 0 {
		return nil
	}
	first := 0
	for i, p := range v {
		if before(placeOf(p), placeOf(v[first])) {
			first = i
		}
	}
	border := []int{first}
	for {
		at := border[len(border)-1]
		next := at
		for i := range v {
			turn := plainSide(placeOf(v[at]), placeOf(v[next]), placeOf(v[i]))
			if next == at || turn < 0 || turn == 0 && plainOn(placeOf(v[at]), placeOf(v[i]), placeOf(v[next])) {
				next = i
			}
		}
		if next == first {
			return border
		}
		border = append(border, next)
	}
}

// plainCovers reports whether a place lies in a triangle, its sides included.
func plainCovers(v []api.Vertex, t three, p api.XY) bool {
	a, b, c := placeOf(v[t[0]]), placeOf(v[t[1]]), placeOf(v[t[2]])
	return plainSide(a, b, p) >= 0 && plainSide(b, c, p) >= 0 && plainSide(c, a, p) >= 0
}

// plainContains is plainCovers of any place.
func plainContains(v []api.Vertex, t three, p spot) bool {
	for k, a := range t {
		if plainTurn(spotOf(placeOf(v[a])), spotOf(placeOf(v[t[(k+1)%3]])), p).Sign() < 0 {
			return false
		}
	}
	return true
}

// plainHeight returns the height of a triangle's plane over a place.
func plainHeight(v []api.Vertex, t three, p spot, high bool) *big.Rat {
	a, b, c := spotOf(placeOf(v[t[0]])), spotOf(placeOf(v[t[1]])), spotOf(placeOf(v[t[2]]))
	z := func(i int) *big.Rat { return whole(heightOf(v[t[i]], high)) }
	up, side := minus(z(1), z(0)), minus(z(2), z(0))
	rise := plus(times(up, plainTurn(a, p, c)), times(side, plainTurn(a, b, p)))
	return plus(z(0), over(rise, plainTurn(a, b, c)))
}

func heightOf(v api.Vertex, high bool) int {
	if high {
		return v.Z.Hi
	}
	return v.Z.Lo
}

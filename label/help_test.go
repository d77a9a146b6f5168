package label_test

import (
	"math/rand"
	"slices"
	"testing"

	"lidar/api"
	"lidar/label"
)

const limit = 1 << 28 // of coordinates and heights

func place(x, y int) api.XY {
	return api.XY{X: x, Y: y}
}

func placeOf(p api.Point) api.XY {
	return place(p.X, p.Y)
}

// single is a point with an exact height that is the only echo of its pulse.
func single(id, x, y, z int) api.Point {
	return echo(id, x, y, z, 1, 1)
}

// echo is a point with an exact height.
func echo(id, x, y, z, num, of int) api.Point {
	return api.Point{Id: id, X: x, Y: y, Z: api.Span{Lo: z, Hi: z}, Num: num, Of: of}
}

// between is a point whose height is from lo to hi.
func between(id, x, y, lo, hi int) api.Point {
	p := single(id, x, y, 0)
	p.Z = api.Span{Lo: lo, Hi: hi}
	return p
}

// example are rules for points that are some millimetres apart.
func example() api.Terrain {
	return api.Terrain{Cell: 10, Reach: 2, Slope: 1000, Link: 5, Flat: 1, Tall: 40, High: 100, Low: 1000, Brush: 10, Few: 1}
}

// frame has the corners of a square with the side 100 at the height 0.
func frame() []api.Point {
	return []api.Point{single(1, 0, 0, 0), single(2, 100, 0, 0), single(3, 0, 100, 0), single(4, 100, 100, 0)}
}

func with(points []api.Point, more ...api.Point) []api.Point {
	return append(slices.Clip(points), more...)
}

func idsOf(points []api.Point) []int {
	var ids []int
	for _, p := range points {
		ids = append(ids, p.Id)
	}
	return ids
}

// scene is what the functions of the layer are asked about.
type scene struct {
	points []api.Point
	rules  api.Terrain
}

// kinds of scenes: many points at few places, of few heights; terrain with trees and houses; on one line, also between posts; and anything within the limits.
var kinds = []func(r *rand.Rand) scene{
	func(r *rand.Rand) scene { return scene{randomPoints(r, 14, crowded), tightRules(r)} },
	func(r *rand.Rand) scene { return scene{randomPoints(r, 30, crowded), tightRules(r)} },
	func(r *rand.Rand) scene {
		return scene{with(randomPoints(r, 60, terrain), posts()...), terrainRules(r)}
	},
	func(r *rand.Rand) scene { return scene{randomPoints(r, 12, lined), tightRules(r)} },
	func(r *rand.Rand) scene { return scene{with(randomPoints(r, 12, lined), posts()...), postRules(r)} },
	func(r *rand.Rand) scene { return scene{with(randomPoints(r, 25, gridded), posts()...), postRules(r)} },
	func(r *rand.Rand) scene { return scene{randomPoints(r, 12, anywhere), anyRules(r)} },
}

// posts stand around what is given by terrain, lined and gridded, at heights of the terrain.
func posts() []api.Point {
	return []api.Point{single(1000, -60, -60, -27), single(1001, 60, -60, 3), single(1002, -60, 60, -3), single(1003, 60, 60, 27)}
}

func randomScene(r *rand.Rand) scene {
	return kinds[r.Intn(len(kinds))](r)
}

// randomPoints returns at most n points with different Ids.
func randomPoints(r *rand.Rand, n int, kind func(r *rand.Rand) api.Point) []api.Point {
	ids := []int{0, api.MaxId}
	for id := range n {
		ids = append(ids, 3*id+1+r.Intn(3))
	}
	r.Shuffle(len(ids), func(i, j int) { ids[i], ids[j] = ids[j], ids[i] })
	points := make([]api.Point, r.Intn(n+1))
	for i := range points {
		p := kind(r)
		p.Id, p.Wide, p.Class = ids[i], r.Intn(limit+1), r.Intn(20)-5
		p.Num, p.Of = 1, 1
		if r.Intn(3) == 0 {
			p.Of = 1 + r.Intn(3)
			p.Num = 1 + r.Intn(p.Of)
		}
		points[i] = p
	}
	return points
}

func crowded(r *rand.Rand) api.Point {
	lo := r.Intn(7) - 3
	return between(0, r.Intn(9)-4, r.Intn(9)-4, lo, lo+r.Intn(3)*r.Intn(2))
}

func lined(r *rand.Rand) api.Point {
	x, z := r.Intn(30)-15, r.Intn(4)
	return between(0, 3*x+1, -2*x+7, z, z)
}

// gridded points often lie on sides of triangles.
func gridded(r *rand.Rand) api.Point {
	x, y := 10*r.Intn(11)-50, 10*r.Intn(11)-50
	z := x/4 + y/5 + r.Intn(4)
	return between(0, x, y, z, z+r.Intn(2))
}

func anywhere(r *rand.Rand) api.Point {
	coordinate := func() int { return []int{-limit, 0, limit, r.Intn(2*limit+1) - limit}[r.Intn(4)] }
	z := []int{coordinate(), coordinate()}
	slices.Sort(z)
	return between(0, coordinate(), coordinate(), z[0], z[1])
}

// terrain is a slope with a house on it, trees, and what is nowhere near.
func terrain(r *rand.Rand) api.Point {
	x, y := r.Intn(61)-30, r.Intn(61)-30
	z := x/4 + y/5 + r.Intn(3)
	switch {
	case r.Intn(30) == 0:
		z += []int{-300, 500}[r.Intn(2)]
	case x > 0 && y > 0 && x < 25 && y < 25 && r.Intn(4) > 0:
		z = 40 + x/20
	case r.Intn(5) == 0:
		z += r.Intn(30)
	}
	return between(0, x, y, z, z+r.Intn(2))
}

func tightRules(r *rand.Rand) api.Terrain {
	return api.Terrain{
		Cell: 1 + r.Intn(12), Reach: r.Intn(4), Slope: r.Intn(4) * 500, Link: 1 + r.Intn(5), Flat: r.Intn(3),
		Tall: r.Intn(3), High: r.Intn(6), Low: r.Intn(5), Brush: r.Intn(4), Few: 1 + r.Intn(4),
	}
}

// postRules are tight ones with which hardly more than the posts are seeds.
func postRules(r *rand.Rand) api.Terrain {
	rules := tightRules(r)
	rules.Cell, rules.Link, rules.High = 50+r.Intn(20), 10, 20
	return rules
}

func terrainRules(r *rand.Rand) api.Terrain {
	return api.Terrain{
		Cell: 31 + r.Intn(30), Reach: 1 + r.Intn(6), Slope: 500 + r.Intn(3000), Link: 6 + r.Intn(20), Flat: r.Intn(4),
		Tall: 15, High: 100, Low: 50 + r.Intn(300), Brush: 1 + r.Intn(8), Few: 1 + r.Intn(6),
	}
}

func anyRules(r *rand.Rand) api.Terrain {
	length := func() int { return []int{0, 1000000, r.Intn(1000001)}[r.Intn(3)] }
	return api.Terrain{
		Cell: []int{1, 10000000, 1 + r.Intn(10000000)}[r.Intn(3)], Reach: length(), Slope: []int{0, 100000, r.Intn(100001)}[r.Intn(3)],
		Link: max(1, length()), Flat: length(), Tall: length(), High: length(), Low: length(), Brush: length(), Few: []int{1, 2, 1024}[r.Intn(3)],
	}
}

// someIds returns Ids of points at different places, in any order.
func someIds(r *rand.Rand, points []api.Point) []int {
	var ids []int
	taken := map[api.XY]bool{}
	for _, i := range r.Perm(len(points)) {
		if at := placeOf(points[i]); !taken[at] && r.Intn(3) > 0 {
			taken[at] = true
			ids = append(ids, points[i].Id)
		}
	}
	return ids
}

// expect fails if a list of numbers, or the error that comes with it, is not the expected one.
func expect(t *testing.T, name string, got []int, err api.Errno, want []int, wantErr api.Errno) {
	t.Helper()
	if err != wantErr || !slices.Equal(got, want) {
		t.Fatalf("%s returns %v, error %d, not %v, error %d", name, got, err, want, wantErr)
	}
}

func surface(t *testing.T, points []api.Point, ids ...int) api.Mesh {
	t.Helper()
	m, err := label.Surface(points, ids)
	if err != api.OK {
		t.Fatalf("Surface of %v, %v: error %d", points, ids, err)
	}
	return m
}

func areEqual(a, b api.Mesh) bool {
	return slices.Equal(a.V, b.V) && slices.Equal(a.T, b.T) && slices.Equal(a.Lines, b.Lines)
}

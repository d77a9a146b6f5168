package tile_test

import (
	"cmp"
	"math/big"
	"math/rand"
	"slices"
	"testing"

	"lidar/api"
	"lidar/tile"
)

const limit = 1 << 28 // of coordinates and heights

func point(id, x, y, z int) api.Point {
	return api.Point{Id: id, X: x, Y: y, Z: api.Span{Lo: z, Hi: z}, Num: 1, Of: 1}
}

// classed is a point with a class.
func classed(p api.Point, class int) api.Point {
	p.Class = class
	return p
}

// numbered returns points with the Ids from 1 to n at different places.
func numbered(n int) []api.Point {
	var points []api.Point
	for id := 1; id <= n; id++ {
		points = append(points, point(id, 3*id, -5*id, 7*id))
	}
	return points
}

// kinds of places: anywhere, at the limits, close to each other, and at the borders of large cells.
var kinds = []func(r *rand.Rand) int{
	func(r *rand.Rand) int { return r.Intn(2*limit+1) - limit },
	func(r *rand.Rand) int { return []int{-limit, 1 - limit, limit - 1, limit}[r.Intn(4)] },
	func(r *rand.Rand) int { return 1000 + r.Intn(3) },
	func(r *rand.Rand) int { return (r.Intn(33)-16)*(limit/16) - r.Intn(2)*r.Intn(2) },
	func(r *rand.Rand) int { return (r.Intn(7)-3)<<17 - r.Intn(2) },
}

// randomPoints returns n points with different Ids.
func randomPoints(r *rand.Rand, n int) []api.Point {
	ids := r.Perm(3*n + 2)[:n]
	along := kinds[r.Intn(len(kinds))]
	inside := func() int { return max(-limit, min(along(r), limit)) }
	var points []api.Point
	for _, id := range ids {
		lo := inside()
		p := point(id, inside(), inside(), lo)
		p.Z.Hi = lo + r.Intn(limit-lo+1)>>r.Intn(30)
		p.Wide = r.Intn(limit+1) >> r.Intn(29)
		p.Of = 1 + r.Intn(api.MaxEchoes)
		p.Num = 1 + r.Intn(p.Of)
		p.Class = r.Intn(256) >> r.Intn(8)
		points = append(points, p)
	}
	if n > 0 && r.Intn(4) == 0 {
		points[0].Id = api.MaxId
	}
	return points
}

func idsOf(points []api.Point) []int {
	var ids []int
	for _, p := range points {
		ids = append(ids, p.Id)
	}
	return ids
}

func sortedById(points []api.Point) []api.Point {
	return slices.SortedFunc(slices.Values(points), func(p, q api.Point) int { return cmp.Compare(p.Id, q.Id) })
}

func shuffled[T any](r *rand.Rand, list []T) []T {
	list = slices.Clone(list)
	r.Shuffle(len(list), func(i, j int) { list[i], list[j] = list[j], list[i] })
	return list
}

// plainRank is the rank of an Id, formed from numbers without a limit.
func plainRank(id int) uint64 {
	all := new(big.Int).Lsh(big.NewInt(1), 64)
	number := func(text string) *big.Int {
		n, _ := new(big.Int).SetString(text, 16)
		return n
	}
	fold := func(x *big.Int, bits uint) *big.Int {
		return new(big.Int).Xor(x, new(big.Int).Rsh(x, bits))
	}
	x := new(big.Int).Mod(new(big.Int).Add(big.NewInt(int64(id)), number("9E3779B97F4A7C15")), all)
	x = new(big.Int).Mod(new(big.Int).Mul(fold(x, 30), number("BF58476D1CE4E5B9")), all)
	x = new(big.Int).Mod(new(big.Int).Mul(fold(x, 27), number("94D049BB133111EB")), all)
	return fold(x, 31).Uint64()
}

// plainCell goes down from the cell of level 0, which is cut in halves.
func plainCell(p api.Point, level int) api.Key {
	along := func(x int) int {
		from, side, index := -limit, 2*limit, 0
		for range level {
			side /= 2
			index *= 2
			if x >= from+side {
				from += side
				index++
			}
		}
		return index
	}
	return api.Key{Level: level, X: along(p.X), Y: along(p.Y), Z: along(p.Z.Lo)}
}

func compareKeys(a, b api.Key) int {
	return slices.Compare([]int{a.Level, a.X, a.Y, a.Z}, []int{b.Level, b.X, b.Y, b.Z})
}

// plainLayout forms the tiles level by level, as the chapter says it.
func plainLayout(points []api.Point, c int) []api.Tile {
	var tiles []api.Tile
	for level := 0; level <= 12; level++ {
		cells := map[api.Key][]api.Point{}
		for _, p := range points {
			key := plainCell(p, level)
			cells[key] = append(cells[key], p)
		}
		points = nil
		for key, in := range cells {
			slices.SortFunc(in, func(p, q api.Point) int { return cmp.Compare(plainRank(p.Id), plainRank(q.Id)) })
			if level < 12 && len(in) > c {
				points = append(points, in[c:]...)
				in = in[:c]
			}
			tiles = append(tiles, api.Tile{Key: key, Points: sortedById(in)})
		}
	}
	slices.SortFunc(tiles, func(a, b api.Tile) int { return compareKeys(a.Key, b.Key) })
	return tiles
}

// plainChanged looks for each tile in the other list.
func plainChanged(a, b []api.Tile) []api.Key {
	var keys []api.Key
	lists := [2][]api.Tile{a, b}
	for i, list := range lists {
		for _, t := range list {
			same := slices.ContainsFunc(lists[1-i], func(o api.Tile) bool { return areSame(t, o) })
			if !same && !slices.Contains(keys, t.Key) {
				keys = append(keys, t.Key)
			}
		}
	}
	slices.SortFunc(keys, compareKeys)
	return keys
}

func areSame(a, b api.Tile) bool {
	return a.Key == b.Key && slices.Equal(a.Points, b.Points)
}

func sameTiles(a, b []api.Tile) bool {
	return slices.EqualFunc(a, b, areSame)
}

func layout(t *testing.T, points []api.Point, c int) []api.Tile {
	t.Helper()
	tiles, err := tile.Layout(points, c)
	if err != api.OK {
		t.Fatalf("Layout of %v with the capacity %d: error %d", points, c, err)
	}
	return tiles
}

func detail(t *testing.T, tiles []api.Tile, level int) []api.Point {
	t.Helper()
	points, err := tile.Detail(tiles, level)
	if err != api.OK {
		t.Fatalf("Detail of %v, level %d: error %d", tiles, level, err)
	}
	return points
}

// badPoints are points that are not valid, each by one field.
func badPoints() []api.Point {
	var list []api.Point
	for _, spoil := range []func(p *api.Point){
		func(p *api.Point) { p.Id = -1 },
		func(p *api.Point) { p.Id = api.MaxId + 1 },
		func(p *api.Point) { p.X = -limit - 1 },
		func(p *api.Point) { p.X = limit + 1 },
		func(p *api.Point) { p.Y = -limit - 1 },
		func(p *api.Point) { p.Y = limit + 1 },
		func(p *api.Point) { p.Z.Lo = -limit - 1 },
		func(p *api.Point) { p.Z.Hi = limit + 1 },
		func(p *api.Point) { p.Z = api.Span{Lo: 5, Hi: 4} },
		func(p *api.Point) { p.Wide = -1 },
		func(p *api.Point) { p.Wide = limit + 1 },
		func(p *api.Point) { p.Num = 0 },
		func(p *api.Point) { p.Num = 2 },
		func(p *api.Point) { p.Of = 16 },
		func(p *api.Point) { p.Class = -1 },
		func(p *api.Point) { p.Class = 256 },
	} {
		p := point(5, 0, 0, 0)
		spoil(&p)
		list = append(list, p)
	}
	return list
}

// badLists are lists of points that are not valid.
func badLists() [][]api.Point {
	lists := [][]api.Point{{point(1, 0, 0, 0), point(2, 0, 0, 0), point(1, 9, 9, 9)}, numbered(api.MaxPoints + 1)}
	for _, p := range badPoints() {
		lists = append(lists, []api.Point{p}, []api.Point{point(1, 0, 0, 0), p})
	}
	return lists
}

package tile_test

import (
	"math"
	"math/rand"
	"slices"
	"testing"

	"lidar/api"
	"lidar/tile"
)

// one is a list of a tile with points, in the cell of a level of the first one.
func one(level int, points ...api.Point) []api.Tile {
	key, _ := tile.CellOf(points[0], level)
	return []api.Tile{{Key: key, Points: points}}
}

// badTiles are lists of tiles that are not valid.
func badTiles() [][]api.Tile {
	p, q := point(1, 0, 0, 0), point(2, 0, 0, 0)
	lists := [][]api.Tile{
		{{}}, {{Key: api.Key{Level: 1, X: 1, Y: 1, Z: 1}}}, {{Points: []api.Point{p}}, {Key: api.Key{Level: 1}}}, // no points
		one(0, q, p), one(0, p, p), one(0, p, q, q), // not in ascending order
		{{Key: api.Key{Level: 1, X: 0, Y: 1, Z: 1}, Points: []api.Point{p}}}, // not in the cell
		{{Key: api.Key{Level: 1, X: 1, Y: 0, Z: 1}, Points: []api.Point{p}}},
		{{Key: api.Key{Level: 1, X: 1, Y: 1, Z: 0}, Points: []api.Point{p}}},
		{{Key: api.Key{Level: 2, X: 1, Y: 1, Z: 1}, Points: []api.Point{p}}},
		one(1, p, point(2, -1, 0, 0)), one(12, p, point(2, 1<<17, 0, 0)),
		slices.Concat(one(1, p), one(0, q)), slices.Concat(one(0, p), one(0, q)), // keys out of order
		slices.Concat(one(1, point(3, 0, 0, 0)), one(1, point(4, 0, 0, -1))),
		slices.Concat(one(1, point(3, 0, 0, 0)), one(1, point(4, 0, -1, 0))),
		slices.Concat(one(1, point(3, 0, -9, 0)), one(1, point(4, -1, 0, 0))),
		slices.Concat(one(0, p), one(1, p)), slices.Concat(one(0, p), one(1, q), one(2, classed(p, 9))), // an Id in two tiles
		one(0, numbered(api.MaxPoints+1)...),
	}
	for _, bad := range badPoints() {
		lists = append(lists, []api.Tile{{Points: []api.Point{bad}}}, []api.Tile{{Points: []api.Point{p, bad}}}, slices.Concat(one(0, p), one(1, q), []api.Tile{{Key: api.Key{Level: 2}, Points: []api.Point{bad}}}))
	}
	for _, key := range badKeys() {
		lists = append(lists, []api.Tile{{Key: key, Points: []api.Point{p}}})
	}
	return lists
}

// P8.4: the order of errors, and all that tiles can be wrong in.
func TestTileErrors(t *testing.T) {
	good := one(0, numbered(3)...)
	for _, tiles := range badTiles() {
		for _, level := range []int{0, 12, 13, -1} {
			if points, err := tile.Detail(tiles, level); err != api.ErrTile || len(points) != 0 {
				t.Errorf("Detail of %v: %v, error %d", tiles, points, err)
			}
		}
		for _, lists := range [][2][]api.Tile{{tiles, good}, {good, tiles}, {tiles, tiles}, {tiles, nil}, {nil, tiles}} {
			if keys, err := tile.Changed(lists[0], lists[1]); err != api.ErrTile || len(keys) != 0 {
				t.Errorf("Changed of %v: %v, error %d", lists, keys, err)
			}
		}
	}
	for _, level := range []int{-1, 13, math.MinInt, math.MaxInt} {
		for _, tiles := range [][]api.Tile{nil, good} {
			if points, err := tile.Detail(tiles, level); err != api.ErrArg || len(points) != 0 {
				t.Errorf("Detail of level %d: %v, error %d", level, points, err)
			}
		}
	}
}

// P8.4: tiles need not be those of a layout, and there may be more than 1024 points in all.
func TestTilesOfNoLayout(t *testing.T) {
	var tiles []api.Tile
	for level := range api.MaxLevel + 1 {
		var points []api.Point
		for id := range 500 {
			points = append(points, point(id*13+level, 1, 1, 1))
		}
		tiles = append(tiles, one(level, points...)...)
	}
	for level := range api.MaxLevel + 1 {
		points := detail(t, tiles, level)
		if len(points) != 500*(level+1) || !slices.Equal(points, sortedById(points)) {
			t.Errorf("Detail of level %d has %d points", level, len(points))
		}
	}
	keys, err := tile.Changed(tiles[3:], tiles)
	if err != api.OK || len(keys) != 3 || keys[2].Level != 2 {
		t.Errorf("Changed returns %v, error %d", keys, err)
	}
	if points := detail(t, tiles[3:], 2); len(points) != 0 {
		t.Errorf("Detail of level 2 has %d points", len(points))
	}
	if keys, err := tile.Changed(nil, nil); err != api.OK || len(keys) != 0 {
		t.Errorf("Changed of nothing returns %v, error %d", keys, err)
	}
	if points := detail(t, nil, 5); len(points) != 0 {
		t.Errorf("Detail of nothing has %v", points)
	}
}

// P8.4: which tiles differ.
func TestChangedTiles(t *testing.T) {
	r := rand.New(rand.NewSource(7))
	same := 0
	for range 300 {
		points, c := randomPoints(r, r.Intn(50)), 1+r.Intn(4)
		add, remove := randomChange(r, points, 3)
		a, b := plainLayout(points, c), plainLayout(plainUpdate(points, add, remove), c)
		want := plainChanged(a, b)
		for _, lists := range [][2][]api.Tile{{a, b}, {b, a}} {
			if got, err := tile.Changed(lists[0], lists[1]); err != api.OK || !slices.Equal(got, want) {
				t.Fatalf("Changed of %v: %v, error %d, not %v", lists, got, err, want)
			}
		}
		if got, err := tile.Changed(a, a); err != api.OK || len(got) != 0 {
			t.Fatalf("Changed of %v and itself: %v, error %d", a, got, err)
		}
		same += len(a) - len(want)
	}
	if same < 300 {
		t.Errorf("only %d tiles stay", same)
	}
}

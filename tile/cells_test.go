package tile_test

import (
	"math"
	"math/rand"
	"testing"

	"lidar/api"
	"lidar/tile"
)

// P8.1: ranks, of any integer.
func TestRank(t *testing.T) {
	if n := tile.Rank(0); n != 0xe220a8397b1dcdaf {
		t.Errorf("Rank(0) is %x", n)
	}
	r := rand.New(rand.NewSource(1))
	ids := []int{0, 1, -1, api.MaxId, api.MaxId + 1, math.MinInt, math.MaxInt}
	for range 2000 {
		ids = append(ids, int(r.Uint64()>>r.Intn(64)))
	}
	seen := map[uint64]int{}
	for _, id := range ids {
		got := tile.Rank(id)
		if want := plainRank(id); got != want {
			t.Errorf("Rank(%d) is %x, not %x", id, got, want)
		}
		if other, there := seen[got]; there && other != id {
			t.Errorf("%d and %d have the same rank", id, other)
		}
		seen[got] = id
	}
}

// P8.1: the cells at the borders of the space, and of each other.
func TestCellOfBorders(t *testing.T) {
	for _, c := range []struct {
		x, level, want int
	}{
		{0, 1, 1}, {-1, 1, 0}, {-limit, 1, 0}, {limit, 1, 1}, {limit - 1, 1, 1}, {limit, 0, 0}, {-limit, 0, 0}, {0, 0, 0},
		{limit, 12, 4095}, {limit - 1, 12, 4095}, {limit - 1<<17, 12, 4095}, {limit - 1<<17 - 1, 12, 4094}, {-limit, 12, 0}, {-limit + 1<<17 - 1, 12, 0}, {-limit + 1<<17, 12, 1},
		{0, 12, 2048}, {-1, 12, 2047}, {limit / 2, 2, 3}, {limit/2 - 1, 2, 2}, {-limit / 2, 2, 1}, {-limit/2 - 1, 2, 0},
	} {
		for axis := range 3 {
			xyz, want := [3]int{}, [3]int{}
			for i := range want {
				want[i] = 1 << c.level / 2
			}
			xyz[axis], want[axis] = c.x, c.want
			p := point(1, xyz[0], xyz[1], xyz[2])
			p.Z.Hi = limit // the upper end plays no part
			got, err := tile.CellOf(p, c.level)
			if err != api.OK || got != (api.Key{Level: c.level, X: want[0], Y: want[1], Z: want[2]}) {
				t.Errorf("CellOf of %v, level %d: %v, error %d, not %v", xyz, c.level, got, err, want)
			}
		}
	}
}

// P8.1: all cells of a point, each above the next one.
func TestCellsOfPoints(t *testing.T) {
	r := rand.New(rand.NewSource(2))
	for range 100 {
		for _, p := range randomPoints(r, 10) {
			last := api.Key{}
			for level := range api.MaxLevel + 1 {
				key, err := tile.CellOf(p, level)
				if err != api.OK || key != plainCell(p, level) {
					t.Fatalf("CellOf of %v, level %d: %v, error %d, not %v", p, level, key, err, plainCell(p, level))
				}
				if above, err := tile.Above(key); level > 0 && (err != api.OK || above != last) {
					t.Fatalf("Above of %v: %v, error %d, not %v", key, above, err, last)
				}
				last = key
			}
		}
	}
}

// P8.1: the order of errors of CellOf.
func TestCellOfErrors(t *testing.T) {
	for _, level := range []int{-1, 13, math.MinInt, math.MaxInt} {
		if key, err := tile.CellOf(point(1, 0, 0, 0), level); err != api.ErrArg || key != (api.Key{}) {
			t.Errorf("CellOf of level %d: %v, error %d", level, key, err)
		}
	}
	for _, p := range badPoints() {
		for _, level := range []int{0, 12, 13, -1} {
			if key, err := tile.CellOf(p, level); err != api.ErrPoint || key != (api.Key{}) {
				t.Errorf("CellOf of %v, level %d: %v, error %d", p, level, key, err)
			}
		}
	}
	for _, class := range []int{0, 255} {
		if _, err := tile.CellOf(classed(point(1, 0, 0, 0), class), 1); err != api.OK {
			t.Errorf("CellOf of the class %d: error %d", class, err)
		}
	}
}

// badKeys name no cells.
func badKeys() []api.Key {
	list := []api.Key{{Level: -1}, {Level: 13}, {Level: math.MaxInt}, {Level: math.MinInt}, {Level: 64}, {X: 1}}
	for level := range api.MaxLevel + 1 {
		for _, x := range []int{-1, 1 << level, math.MinInt, math.MaxInt} {
			list = append(list, api.Key{Level: level, X: x}, api.Key{Level: level, Y: x}, api.Key{Level: level, Z: x})
		}
	}
	return list
}

// P8.1: what has no cell above it.
func TestAboveErrors(t *testing.T) {
	for _, key := range append(badKeys(), api.Key{}) {
		if above, err := tile.Above(key); err != api.ErrKey || above != (api.Key{}) {
			t.Errorf("Above of %v: %v, error %d", key, above, err)
		}
	}
	for level := 1; level <= api.MaxLevel; level++ {
		last := 1<<level - 1
		above, err := tile.Above(api.Key{Level: level, X: last, Z: last})
		if err != api.OK || above != (api.Key{Level: level - 1, X: last / 2, Z: last / 2}) {
			t.Errorf("Above of the last cell of level %d: %v, error %d", level, above, err)
		}
	}
}

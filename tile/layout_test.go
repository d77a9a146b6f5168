package tile_test

import (
	"math"
	"math/rand"
	"slices"
	"testing"

	"lidar/api"
	"lidar/tile"
)

var capacities = []int{1, 2, 3, 5, 17, api.MaxCap}

// P8.2, P8.12, P5: layouts are those of the plain model, whatever the order of the points is.
func TestLayoutOfPoints(t *testing.T) {
	r := rand.New(rand.NewSource(3))
	deepest := 0
	for range 400 {
		points, c := randomPoints(r, r.Intn(60)), capacities[r.Intn(len(capacities))]
		got := layout(t, points, c)
		if want := plainLayout(points, c); !sameTiles(got, want) {
			t.Fatalf("Layout of %v with the capacity %d: %v, not %v", points, c, got, want)
		}
		if again := layout(t, shuffled(r, points), c); !sameTiles(got, again) {
			t.Fatalf("Layout of %v depends on the order", points)
		}
		if len(got) > 0 {
			deepest = max(deepest, got[len(got)-1].Key.Level)
		}
	}
	if deepest != api.MaxLevel {
		t.Errorf("no layout goes below the level %d", deepest)
	}
}

// P8.2: the third example, and a cell of the last level that takes all that are left.
func TestLayoutOfOnePlace(t *testing.T) {
	var points []api.Point
	for id := range 20 {
		points = append(points, point(id, 7, 7, 7))
	}
	tiles := layout(t, points, 1)
	if len(tiles) != 13 || len(tiles[12].Points) != 8 || tiles[12].Key.Level != 12 {
		t.Fatalf("Layout returns %v", tiles)
	}
	for i := range 11 {
		first, second := tiles[i].Points[0], tiles[i+1].Points[0]
		if len(tiles[i].Points) != 1 || tile.Rank(first.Id) >= tile.Rank(second.Id) {
			t.Errorf("the tiles %v and %v are not in the order of ranks", tiles[i], tiles[i+1])
		}
	}
	many := layout(t, numbered(api.MaxPoints), api.MaxCap)
	if all := detail(t, many, api.MaxLevel); len(all) != api.MaxPoints {
		t.Errorf("Layout of 1024 points has %d of them", len(all))
	}
	if none := layout(t, nil, 1); len(none) != 0 {
		t.Errorf("Layout of no points has %v", none)
	}
}

// P8.12: what holds for all layouts.
func TestLevels(t *testing.T) {
	r := rand.New(rand.NewSource(4))
	for range 200 {
		points, c := randomPoints(r, r.Intn(80)), 1+r.Intn(6)
		tiles := layout(t, points, c)
		size := map[api.Key]int{}
		tileOf := map[int]api.Key{}
		for _, tl := range tiles {
			size[tl.Key] = len(tl.Points)
			if tl.Key.Level < api.MaxLevel && len(tl.Points) > c {
				t.Fatalf("%v has more than %d points", tl, c)
			}
			for _, p := range tl.Points {
				if other, there := tileOf[p.Id]; there {
					t.Fatalf("%v is in the tiles %v and %v", p, other, tl.Key)
				}
				tileOf[p.Id] = tl.Key
			}
		}
		for _, p := range points {
			for level := range tileOf[p.Id].Level {
				if key := plainCell(p, level); size[key] != c {
					t.Fatalf("%v is in a tile of level %d below %v, which has %d points", p, tileOf[p.Id].Level, key, size[key])
				}
			}
		}
		expectLevels(t, tiles, points)
	}
}

// expectLevels fails if a level of detail has not all points of the one in front of it, or the last one not all points.
func expectLevels(t *testing.T, tiles []api.Tile, points []api.Point) {
	t.Helper()
	var last []api.Point
	for level := range api.MaxLevel + 1 {
		next := detail(t, tiles, level)
		if !slices.Equal(next, sortedById(next)) {
			t.Fatalf("Detail of level %d is not in order", level)
		}
		for _, p := range last {
			if !slices.Contains(next, p) {
				t.Fatalf("Detail of level %d does not have %v", level, p)
			}
		}
		last = next
	}
	if !slices.Equal(last, sortedById(points)) {
		t.Fatalf("Detail of all levels is %v, not %v", last, points)
	}
}

// P8.2: the order of errors.
func TestLayoutErrors(t *testing.T) {
	for _, c := range []int{0, 65, -1, math.MinInt, math.MaxInt} {
		for _, points := range append(badLists(), nil, numbered(3)) {
			want := api.ErrPoint
			if len(points) == 0 || len(points) == 3 && points[2].Id == 3 {
				want = api.ErrArg
			}
			if tiles, err := tile.Layout(points, c); err != want || len(tiles) != 0 {
				t.Errorf("Layout of %d points with the capacity %d: %v, error %d, not %d", len(points), c, tiles, err, want)
			}
		}
	}
	for _, points := range badLists() {
		if tiles, err := tile.Layout(points, 4); err != api.ErrPoint || len(tiles) != 0 {
			t.Errorf("Layout of %d points: %v, error %d", len(points), tiles, err)
		}
	}
}

// randomChange returns what can be added to points and removed from them; some of it are points with another field, or the same.
func randomChange(r *rand.Rand, points []api.Point, most int) (add []api.Point, remove []int) {
	there := map[int]bool{}
	for _, p := range points {
		there[p.Id] = true
		if r.Intn(len(points)) >= most {
			continue
		}
		remove = append(remove, p.Id)
		there[p.Id] = false
		if r.Intn(2) == 0 {
			p.Class = (p.Class + r.Intn(2)) % 256
			add = append(add, p)
			there[p.Id] = true
		}
	}
	for _, p := range randomPoints(r, r.Intn(most+1)) {
		if !there[p.Id] && len(points)+len(add) < api.MaxPoints {
			there[p.Id] = true
			add = append(add, p)
		}
	}
	return shuffled(r, add), shuffled(r, remove)
}

// plainUpdate is what points become.
func plainUpdate(points, add []api.Point, remove []int) []api.Point {
	points = slices.Clone(points)
	points = slices.DeleteFunc(points, func(p api.Point) bool { return slices.Contains(remove, p.Id) })
	return sortedById(append(points, add...))
}

// P8.3, P8.13: changes of points, and how many tiles they affect.
func TestUpdateOfPoints(t *testing.T) {
	r := rand.New(rand.NewSource(5))
	for range 400 {
		points, c := randomPoints(r, r.Intn(60)), capacities[r.Intn(len(capacities))]
		add, remove := randomChange(r, points, 1+r.Intn(6))
		tiles, keys, err := tile.Update(points, add, remove, c)
		before, after := plainLayout(points, c), plainLayout(plainUpdate(points, add, remove), c)
		if err != api.OK || !sameTiles(tiles, after) || !slices.Equal(keys, plainChanged(before, after)) {
			t.Fatalf("Update of %v with %v, %v: %v, %v, error %d", points, add, remove, tiles, keys, err)
		}
		count := map[int]int{}
		for _, key := range keys {
			count[key.Level]++
			if count[key.Level] > len(add)+len(remove) {
				t.Fatalf("Update with %v, %v affects the tiles %v", add, remove, keys)
			}
		}
	}
}

// P8.13: a change of one point affects one tile of each level at the most, each in the one in front of it.
func TestUpdateOfOnePoint(t *testing.T) {
	r := rand.New(rand.NewSource(6))
	affected := 0
	for i := range 600 {
		points, c := randomPoints(r, 2+r.Intn(60)), 1+r.Intn(3)
		var add []api.Point
		remove := []int{points[0].Id}
		if i%2 == 0 {
			points, add, remove = points[1:], points[:1], nil
		}
		before := layout(t, points, c)
		after, keys, err := tile.Update(points, add, remove, c)
		if err != api.OK || len(keys) == 0 {
			t.Fatalf("Update returns %v, error %d", keys, err)
		}
		for i, key := range keys {
			above, _ := tile.Above(key)
			switch {
			case i > 0 && above != keys[i-1]:
				t.Fatalf("the affected tiles are %v", keys)
			case i == 0 && key.Level > 0 && !areSame(tileAt(before, above), tileAt(after, above)):
				t.Fatalf("the tile above %v changes, but is not in %v", key, keys)
			}
		}
		affected += len(keys)
	}
	if affected < 1000 {
		t.Errorf("only %d tiles are affected", affected)
	}
}

func tileAt(tiles []api.Tile, key api.Key) api.Tile {
	i := slices.IndexFunc(tiles, func(t api.Tile) bool { return t.Key == key })
	if i < 0 {
		return api.Tile{Key: key}
	}
	return tiles[i]
}

// P8.3: changes at the limits.
func TestUpdateAtTheLimits(t *testing.T) {
	full := numbered(api.MaxPoints)
	more := []api.Point{point(5000, 0, 0, 0)}
	for _, c := range []struct {
		points, add []api.Point
		remove      []int
		want        api.Errno
	}{
		{full, nil, nil, api.OK},
		{full, more, nil, api.ErrMany},
		{full, more, []int{7}, api.OK},
		{full, full, idsOf(full), api.OK},
		{nil, full, nil, api.OK},
		{more, full, nil, api.ErrMany},
		{more, full, []int{5000}, api.OK},
		{full, full, idsOf(full[1:]), api.ErrThere},
		{full, full[:1], nil, api.ErrThere},
		{full, more, []int{5000}, api.ErrGone},
		{full, more, []int{7, 7}, api.ErrGone},
		{full, full[6:7], []int{7, 7}, api.ErrGone},
		{full, full[:1], []int{-1}, api.ErrGone},
		{nil, nil, []int{0}, api.ErrGone},
		{full, nil, make([]int, 5000), api.ErrGone},
		{full, nil, idsOf(full), api.OK},
	} {
		tiles, keys, err := tile.Update(c.points, c.add, c.remove, 4)
		if err != c.want || err != api.OK && len(tiles)+len(keys) > 0 {
			t.Errorf("Update of %d points, %d more and %d less: %d tiles, error %d, not %d", len(c.points), len(c.add), len(c.remove), len(tiles), err, c.want)
		}
	}
}

// P8.3: a point that is replaced by one with another field is a change, by the same one it is none.
func TestUpdateOfFields(t *testing.T) {
	points := numbered(3)
	for i, change := range []func(p *api.Point){
		func(p *api.Point) {},
		func(p *api.Point) { p.X++ }, func(p *api.Point) { p.Y++ }, func(p *api.Point) { p.Z.Lo-- }, func(p *api.Point) { p.Z.Hi++ },
		func(p *api.Point) { p.Wide++ }, func(p *api.Point) { p.Of++ }, func(p *api.Point) { p.Of++; p.Num++ }, func(p *api.Point) { p.Class++ },
	} {
		p := points[1]
		change(&p)
		_, keys, err := tile.Update(points, []api.Point{p}, []int{p.Id}, 4)
		if err != api.OK || len(keys) != min(i, 1) {
			t.Errorf("Update with %v in place of %v: %v, error %d", p, points[1], keys, err)
		}
	}
}

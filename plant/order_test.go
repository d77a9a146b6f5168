package plant_test

import (
	"bytes"
	"encoding/binary"
	"hash/crc32"
	"math/rand"
	"slices"
	"testing"

	"lidar/api"
	"lidar/label"
	"lidar/plant"
	"lidar/tile"
)

func layout(t *testing.T, points []api.Point, c int) []api.Tile {
	t.Helper()
	tiles, err := tile.Layout(points, c)
	if err != api.OK {
		t.Fatalf("Layout: error %d", err)
	}
	return tiles
}

func selected(t *testing.T, tiles []api.Tile, o api.Order) []api.Point {
	t.Helper()
	points, err := plant.Select(tiles, o)
	if err != api.OK {
		t.Fatalf("Select of %v: error %d", o, err)
	}
	return points
}

// plainSelect asks for each point of each tile.
func plainSelect(tiles []api.Tile, o api.Order) []api.Point {
	var list []api.Point
	for _, tl := range tiles {
		for _, p := range tl.Points {
			in := true
			if len(o.Ring) > 0 {
				in, _ = label.Within(o.Ring, api.XY{X: p.X, Y: p.Y})
			}
			if in && tl.Key.Level <= o.Level && (len(o.Classes) == 0 || slices.Contains(o.Classes, p.Class)) && tile.Rank(p.Id)%uint64(o.Every) == 0 {
				list = append(list, p)
			}
		}
	}
	return sortedById(list)
}

func randomOrder(r *rand.Rand) api.Order {
	o := api.Order{Level: r.Intn(13) >> r.Intn(3), Every: 1 + r.Intn(5)>>r.Intn(3)}
	if r.Intn(3) == 0 {
		side := []int{2, 700, limit}[r.Intn(3)]
		for range 3 + r.Intn(4) {
			o.Ring = append(o.Ring, api.XY{X: r.Intn(2*side+1) - side, Y: r.Intn(2*side+1) - side})
		}
	}
	if r.Intn(3) == 0 {
		for range 1 + r.Intn(16) {
			o.Classes = append(o.Classes, r.Intn(40)%20)
		}
	}
	return o
}

// P10.7, P10.22
func TestSelect(t *testing.T) {
	r := rand.New(rand.NewSource(31))
	all, some := 0, 0
	for range 400 {
		points := randomPoints(r, r.Intn(200))
		tiles := layout(t, points, 1+r.Intn(9))
		o := randomOrder(r)
		got := selected(t, tiles, o)
		expect(t, "the points of an order", got, plainSelect(tiles, o))
		if o.Level < api.MaxLevel {
			o.Level += 1 + r.Intn(api.MaxLevel-o.Level)
		}
		more := selected(t, tiles, o)
		for _, p := range got {
			if !slices.Contains(more, p) {
				t.Fatalf("%v is not among the points up to the level %d", p, o.Level)
			}
		}
		all, some = all+len(points), some+len(got)
	}
	if some < all/10 || some > all/2 {
		t.Errorf("%d of %d points were selected", some, all)
	}
}

// P10.7: all points, every point whose rank is a multiple of the greatest number, and the sides of a ring.
func TestSelectAll(t *testing.T) {
	r := rand.New(rand.NewSource(32))
	points := randomPoints(r, 1024)
	tiles := layout(t, points, 3)
	expect(t, "all points", selected(t, tiles, api.Order{Level: 12, Every: 1}), sortedById(points))
	expect(t, "the points of level 0", len(selected(t, tiles, api.Order{Every: 1})), 3)
	for _, every := range []int{2, 999, 1000} {
		var want []api.Point
		for _, p := range sortedById(points) {
			if tile.Rank(p.Id)%uint64(every) == 0 {
				want = append(want, p)
			}
		}
		if len(want) == 0 {
			t.Errorf("no rank is a multiple of %d", every)
		}
		expect(t, "some points", selected(t, tiles, api.Order{Level: 12, Every: every}), want)
	}
	line := []api.Point{point(1, -1, 0, 0, 0), point(2, 0, 0, 0, 0), point(3, 2, 2, 0, 0), point(4, 4, 4, 0, 0), point(5, 4, 5, 0, 0)}
	expect(t, "points on a ring and in it", selected(t, layout(t, line, 1), api.Order{Level: 12, Every: 1, Ring: square}), line[1:4])
	expect(t, "points of no tiles", selected(t, nil, api.Order{Every: 1}), []api.Point(nil))
}

// P10.7: more points than an archive has are no error.
func TestSelectMany(t *testing.T) {
	var tiles []api.Tile
	for i := range 3 {
		tl := api.Tile{Key: api.Key{Level: 2, X: i}}
		for n := range 1000 {
			tl.Points = append(tl.Points, point(i*1000+n, i<<27-limit, -limit, -limit, 0))
		}
		tiles = append(tiles, tl)
	}
	if points := selected(t, tiles, api.Order{Level: 2, Every: 1}); len(points) != 3000 {
		t.Errorf("Select has %d points", len(points))
	}
	if points := selected(t, tiles, api.Order{Level: 1, Every: 1}); len(points) != 0 {
		t.Errorf("Select of level 1 has %d points", len(points))
	}
}

// P10.7: errors in their order.
func TestSelectErrors(t *testing.T) {
	good := layout(t, randomPoints(rand.New(rand.NewSource(33)), 20), 3)
	bad := [][]api.Tile{{{}}, {good[1], good[0]}, {good[0], good[0]}, {{Key: api.Key{Level: 13}, Points: good[0].Points}}}
	for _, points := range badPoints() {
		bad = append(bad, []api.Tile{{Points: points}})
	}
	for _, o := range badOrders() {
		for _, tiles := range [][]api.Tile{good, bad[0]} {
			if points, err := plant.Select(tiles, o); err != api.ErrOrder || len(points) > 0 {
				t.Errorf("Select of %v: %v, error %d", o, points, err)
			}
		}
	}
	for _, tiles := range bad {
		if points, err := plant.Select(tiles, api.Order{Every: 1}); err != api.ErrTile || len(points) > 0 {
			t.Errorf("Select of %v: %v, error %d", tiles, points, err)
		}
	}
}

// sealed returns bytes with their checksum.
func sealed(b []byte) []byte {
	return binary.BigEndian.AppendUint32(slices.Clone(b), crc32.ChecksumIEEE(b))
}

// plainBody is the delivery of points, in any order and whether they are valid or not, without the checksum.
func plainBody(points []api.Point) []byte {
	b := binary.AppendUvarint(nil, uint64(len(points)))
	before := 0
	for _, p := range points {
		b = binary.AppendUvarint(b, uint64(p.Id-before))
		for _, n := range []int{p.X, p.Y, p.Z.Lo} {
			b = binary.AppendVarint(b, int64(n))
		}
		for _, n := range []int{p.Z.Hi - p.Z.Lo, p.Wide, p.Num, p.Of, p.Class} {
			b = binary.AppendUvarint(b, uint64(n))
		}
		before = p.Id
	}
	return b
}

func ship(t *testing.T, points []api.Point) []byte {
	t.Helper()
	b, err := plant.Ship(points)
	if err != api.OK {
		t.Fatalf("Ship of %v: error %d", points, err)
	}
	return b
}

func receive(t *testing.T, b []byte) []api.Point {
	t.Helper()
	points, err := plant.Receive(b)
	if err != api.OK {
		t.Fatalf("Receive of %x: error %d", b, err)
	}
	return points
}

// P10.8
func TestShip(t *testing.T) {
	r := rand.New(rand.NewSource(34))
	for i := range 200 {
		points := randomPoints(r, []int{i, 1024}[i/199])
		b := ship(t, points)
		expect(t, "the delivery", b, sealed(plainBody(sortedById(points))))
		expect(t, "the points", receive(t, b), sortedById(points))
	}
	expect(t, "the delivery of no points", ship(t, nil), []byte{0, 0xd2, 0x02, 0xef, 0x8d})
	expect(t, "no points", receive(t, []byte{0, 0xd2, 0x02, 0xef, 0x8d}), []api.Point(nil))
}

// P10.8: errors of Ship.
func TestShipErrors(t *testing.T) {
	bad := append(badPoints(), []api.Point{point(1, 0, 0, 0, -1)}, []api.Point{point(1, 0, 0, 0, 2), point(2, 0, 0, 0, 256)}, []api.Point{point(1, 0, 0, 0, -1<<63)})
	for _, points := range bad {
		if b, err := plant.Ship(points); err != api.ErrPoint || len(b) > 0 {
			t.Errorf("Ship of %v: %v, error %d", points, b, err)
		}
	}
	ends := []api.Point{point(0, limit, -limit, limit, 0), point(api.MaxId, -limit, limit, -limit, 255)}
	ends[0].Wide, ends[0].Num, ends[0].Of, ends[1].Z.Hi = limit, 15, 15, limit
	expect(t, "points at the limits", receive(t, ship(t, ends)), ends)
}

func expectForm(t *testing.T, b []byte) {
	t.Helper()
	if points, err := plant.Receive(b); err != api.ErrForm || len(points) > 0 {
		t.Fatalf("Receive of %x: %v, error %d", b, points, err)
	}
}

// P10.8, P10.22: a delivery with a changed byte, without its end, or with more behind it is not accepted.
func TestDamagedDeliveries(t *testing.T) {
	r := rand.New(rand.NewSource(35))
	for _, n := range []int{0, 1, 2, 7} {
		b := ship(t, randomPoints(r, n))
		for i := range b {
			for _, x := range []byte{1, 0x80, 0xff, byte(1 + r.Intn(255))} {
				c := slices.Clone(b)
				c[i] ^= x
				expectForm(t, c)
			}
			expectForm(t, b[:i])
			expectForm(t, append(slices.Clone(b[i:]), 0))
		}
		expectForm(t, append(slices.Clone(b), b...))
	}
}

// P10.8: bytes with the right checksum that are the delivery of no points.
func TestFalseDeliveries(t *testing.T) {
	good := plainBody([]api.Point{point(3, 1, 1, 1, 1), point(9, 2, 2, 2, 2)})
	expect(t, "the points", len(receive(t, sealed(good))), 2)
	for i := range good {
		expectForm(t, sealed(good[:i]))
		long := slices.Insert(slices.Clone(good), i+1, 0)
		long[i] |= 0x80 // the same number with a group more
		expectForm(t, sealed(long))
	}
	expectForm(t, nil)
	expectForm(t, sealed(nil))
	expectForm(t, sealed(append(slices.Clone(good), 0)))
	expectForm(t, sealed(plainBody([]api.Point{point(3, 1, 1, 1, 1), point(3, 2, 2, 2, 2)})))
	expectForm(t, sealed(plainBody([]api.Point{point(3, 1, 1, 1, 256)})))
	expectForm(t, sealed(plainBody([]api.Point{point(3, 1, 1, 1, 1<<40)})))
	for _, points := range badPoints() {
		expectForm(t, sealed(plainBody(points)))
	}
	huge := point(1<<62-1, 0, 0, 0, 0)
	expectForm(t, sealed(plainBody([]api.Point{huge, point(1<<63-2, 0, 0, 0, 0)})))
	for _, count := range []int{1, 3, 1 << 20, 1<<62 - 1} {
		expectForm(t, sealed(append(binary.AppendUvarint(nil, uint64(count)), good[1:]...)))
	}
}

// P10.8, R1: any bytes with the right checksum are no reason to panic, and what is accepted is what Ship makes.
func TestAnyDeliveries(t *testing.T) {
	r := rand.New(rand.NewSource(36))
	accepted := 0
	for range 20000 {
		b := plainBody(sortedById(randomPoints(r, 1+r.Intn(3))))
		for range r.Intn(3) {
			b[r.Intn(len(b))] = byte(r.Intn(256)) >> r.Intn(8)
		}
		b = sealed(b)
		points, err := plant.Receive(b)
		if err != api.OK && err != api.ErrForm {
			t.Fatalf("Receive of %x: error %d", b, err)
		}
		if err == api.OK {
			accepted++
			if !bytes.Equal(ship(t, points), b) {
				t.Fatalf("Receive of %x: %v", b, points)
			}
		}
	}
	if accepted < 5000 || accepted > 19000 {
		t.Errorf("%d deliveries were accepted", accepted)
	}
}

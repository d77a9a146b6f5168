package tile_test

import (
	"bytes"
	"encoding/binary"
	"hash/crc32"
	"math/rand"
	"testing"

	"lidar/api"
	"lidar/tile"
)

// sealed appends the checksum, made by the library.
func sealed(b []byte) []byte {
	return binary.BigEndian.AppendUint32(bytes.Clone(b), crc32.ChecksumIEEE(b))
}

// plainBody returns the encoding of a tile without its checksum, made by the library, whose groups of seven bits are the same.
func plainBody(t api.Tile) []byte {
	var b []byte
	numbers := func(list ...int) {
		for _, n := range list {
			b = binary.AppendUvarint(b, uint64(n))
		}
	}
	numbers(t.Key.Level, t.Key.X, t.Key.Y, t.Key.Z, len(t.Points))
	last := 0
	for _, p := range t.Points {
		numbers(p.Id - last)
		last = p.Id
		for _, n := range []int{p.X, p.Y, p.Z.Lo} {
			b = binary.AppendVarint(b, int64(n))
		}
		numbers(p.Z.Hi-p.Z.Lo, p.Wide, p.Num, p.Of, p.Class)
	}
	return b
}

func randomTiles(r *rand.Rand) []api.Tile {
	return plainLayout(randomPoints(r, r.Intn(40)), capacities[r.Intn(len(capacities))])
}

// P8.5, P8.14
func TestEncodeAndBack(t *testing.T) {
	r := rand.New(rand.NewSource(8))
	tiles := one(0, numbered(api.MaxPoints)...)
	for range 100 {
		tiles = append(tiles, randomTiles(r)...)
	}
	for _, tl := range tiles {
		b, err := tile.Encode(tl)
		if want := sealed(plainBody(tl)); err != api.OK || !bytes.Equal(b, want) {
			t.Fatalf("Encode of %v: %x, error %d, not %x", tl, b, err, want)
		}
		if again, err := tile.Decode(b); err != api.OK || !areSame(again, tl) {
			t.Fatalf("Decode of %x: %v, error %d, not %v", b, again, err, tl)
		}
	}
}

// P8.5: a tile that is not valid has no encoding; what looks like one is no tile.
func TestBadTilesHaveNoEncoding(t *testing.T) {
	for _, tiles := range badTiles() {
		if len(tiles) != 1 {
			continue
		}
		if b, err := tile.Encode(tiles[0]); err != api.ErrTile || len(b) != 0 {
			t.Errorf("Encode of %v: %x, error %d", tiles[0], b, err)
		}
		expectNoTile(t, sealed(plainBody(tiles[0])))
	}
}

func expectNoTile(t *testing.T, b []byte) {
	t.Helper()
	if got, err := tile.Decode(b); err != api.ErrForm || !areSame(got, api.Tile{}) {
		t.Errorf("Decode of %x: %v, error %d", b, got, err)
	}
}

// P8.5: bytes that are missing or too many, numbers with more groups than they need, and numbers that are too large.
func TestDecodeOfDamagedBytes(t *testing.T) {
	p := classed(point(300, 1, -1, 0), 2)
	p.Z.Hi = 1
	body := plainBody(api.Tile{Points: []api.Point{p, point(301, 5, 5, 5)}})
	for size := range body {
		expectNoTile(t, sealed(body[:size]))
		expectNoTile(t, sealed(body)[:size])
	}
	for size := range 4 {
		expectNoTile(t, sealed(body)[:len(body)+size])
	}
	for _, behind := range [][]byte{{0}, {1}, {0x80}, body} {
		expectNoTile(t, sealed(append(bytes.Clone(body), behind...)))
		expectNoTile(t, append(sealed(body), behind...))
	}
	for i := range body {
		if body[i] < 128 { // a last group, to which a group of 0 is added
			expectNoTile(t, sealed(append(append(bytes.Clone(body[:i]), body[i]|128, 0), body[i+1:]...)))
		}
		expectNoTile(t, sealed(append(bytes.Clone(body[:i]), bytes.Repeat([]byte{255}, 40)...)))
	}
	for _, count := range []int{0, 1, 3, 1025, 1 << 40, api.MaxVar} {
		b := binary.AppendUvarint(make([]byte, 4), uint64(count))
		expectNoTile(t, sealed(b))
		expectNoTile(t, sealed(append(b, body[5:]...)))
	}
	expectNoTile(t, nil)
	expectNoTile(t, sealed(nil))
	expectNoTile(t, make([]byte, 100000))
}

// P8.5: numbers whose sums do not fit are no Ids and no heights.
func TestDecodeOfGreatNumbers(t *testing.T) {
	great := binary.AppendUvarint(nil, api.MaxVar)
	for _, ids := range [][][]byte{{great}, {{1}, great}, {{1}, great, great}, {{1}, great, great, great, {8}}} {
		b := append(make([]byte, 4), byte(len(ids)))
		for _, id := range ids {
			b = append(append(b, id...), 0, 0, 0, 0, 0, 1, 1, 0)
		}
		expectNoTile(t, sealed(b))
	}
	b := []byte{0, 0, 0, 0, 1, 1, 0, 0}
	b = append(binary.AppendVarint(b, 1<<61-1), great...)
	expectNoTile(t, sealed(append(b, 0, 1, 1, 0)))
}

// P8.14: a changed byte is not accepted.
func TestDecodeOfChangedBytes(t *testing.T) {
	b := sealed(plainBody(api.Tile{Points: numbered(3)}))
	for i := range b {
		for change := 1; change < 256; change++ {
			other := bytes.Clone(b)
			other[i] ^= byte(change)
			expectNoTile(t, other)
		}
	}
}

// P8.5: whatever the bytes are, they are no tile, or one whose encoding they are.
func TestDecodeOfAnything(t *testing.T) {
	found := 0
	expect := func(b []byte) {
		got, err := tile.Decode(b)
		if err != api.OK {
			expectNoTile(t, b)
			return
		}
		found++
		if again, err := tile.Encode(got); err != api.OK || !bytes.Equal(again, b) {
			t.Errorf("%x is read as %v, whose encoding is %x, error %d", b, got, again, err)
		}
	}
	r := rand.New(rand.NewSource(9))
	for range 60 {
		for _, tl := range randomTiles(r) {
			body := plainBody(tl)
			for range 30 {
				other := bytes.Clone(body)
				other[r.Intn(len(other))] = byte(r.Intn(256) >> r.Intn(8))
				expect(sealed(other))
			}
		}
	}
	for range 20000 {
		b := make([]byte, r.Intn(20))
		for i := range b {
			b[i] = byte(r.Intn(256) >> r.Intn(8))
		}
		expect(sealed(b))
	}
	if found < 1000 {
		t.Errorf("only %d tiles were read", found)
	}
}

package model_test

import (
	"bytes"
	"encoding/binary"
	"hash/crc32"
	"math/rand"
	"slices"
	"testing"

	"lidar/api"
	"lidar/model"
)

// sealed appends the checksum, made by the library.
func sealed(b []byte) []byte {
	return binary.BigEndian.AppendUint32(bytes.Clone(b), crc32.ChecksumIEEE(b))
}

// plainHead returns the encoding of a raster, made by the library, whose groups of seven bits are the same.
func plainHead(f api.Raster) []byte {
	b := binary.AppendVarint(nil, int64(f.X0))
	b = binary.AppendVarint(b, int64(f.Y0))
	for _, n := range []int{f.Step, f.NX, f.NY} {
		b = binary.AppendUvarint(b, uint64(n))
	}
	return b
}

// plainBody returns the encoding of a grid without its checksum.
func plainBody(g api.Grid) []byte {
	b := plainHead(g.Raster)
	lo, voids := 0, 0
	for i, c := range g.Cells {
		if c.Void {
			voids++
		}
		if voids > 0 && (!c.Void || i == len(g.Cells)-1) {
			b = binary.AppendUvarint(append(b, 0), uint64(voids))
			voids = 0
		}
		if !c.Void {
			b = binary.AppendUvarint(b, uint64(1+c.Z.Hi-c.Z.Lo))
			b = binary.AppendVarint(b, int64(c.Z.Lo-lo))
			lo = c.Z.Lo
		}
	}
	return b
}

// P9.9, P9.15
func TestEncodeAndBack(t *testing.T) {
	r := rand.New(rand.NewSource(61))
	largest := api.Raster{X0: -limit, Y0: -limit, Step: mostStep, NX: 64, NY: 64}
	grids := []api.Grid{row(void), row(cell(0, 0)), full(largest, void), full(largest, cell(-limit, limit)), randomGrid(r, largest), spiral()}
	for range 500 {
		grids = append(grids, randomGrid(r, randomRaster(r)))
	}
	for _, g := range grids {
		b, err := model.Encode(g)
		if want := sealed(plainBody(g)); err != api.OK || !bytes.Equal(b, want) {
			t.Fatalf("Encode of %v: %x, error %d, not %x", g, b, err, want)
		}
		if again, err := model.Decode(b); err != api.OK || !sameGrid(again, g) {
			t.Fatalf("Decode of %x: %v, error %d, not %v", b, again, err, g)
		}
	}
}

// P9.9: the bytes of a grid, written down.
func TestEncoding(t *testing.T) {
	g := api.Grid{Raster: api.Raster{X0: -1, Y0: 64, Step: 300, NX: 2, NY: 4}, Cells: []api.Cell{void, void, cell(3, 5), cell(-3, 125), void, cell(-3, -3), cell(1, 1), void}}
	want := []byte{1, 0x80, 1, 0xac, 2, 2, 4, 0, 2, 3, 6, 0x81, 1, 11, 0, 1, 1, 0, 1, 8, 0, 1}
	if b, err := model.Encode(g); err != api.OK || !bytes.Equal(b, sealed(want)) {
		t.Errorf("Encode: %x, error %d, not %x", b, err, sealed(want))
	}
}

func expectNoGrid(t *testing.T, b []byte) {
	t.Helper()
	if got, err := model.Decode(b); err != api.ErrForm || !sameGrid(got, api.Grid{}) {
		t.Errorf("Decode of %x: %v, error %d", b, got, err)
	}
}

// P9.9: a grid that is not valid has no encoding; what looks like one is no grid.
func TestBadGridsHaveNoEncoding(t *testing.T) {
	for _, g := range badGrids() {
		if b, err := model.Encode(g); err != api.ErrGrid || len(b) != 0 {
			t.Errorf("Encode of %v: %x, error %d", g, b, err)
		}
		// A void cell has no bytes for its span, and the bytes of a span that ends 1 too low say that cells are void.
		hidden := func(c api.Cell) bool { return c.Void && c.Z != api.Span{} || c.Z.Hi == c.Z.Lo-1 }
		if !slices.ContainsFunc(g.Cells, hidden) {
			expectNoGrid(t, sealed(plainBody(g)))
		}
	}
}

// P9.9: numbers of void cells that are not those of a maximal list.
func TestDecodeOfVoids(t *testing.T) {
	f := api.Raster{Step: 10, NX: 4, NY: 1}
	head := plainHead(f)
	for _, good := range [][]byte{{0, 4}, {0, 3, 1, 0}, {1, 0, 0, 3}, {1, 0, 0, 1, 1, 0, 0, 1}, {0, 1, 1, 0, 0, 1, 1, 0}, {1, 0, 1, 0, 1, 0, 1, 0}} {
		b := sealed(slices.Concat(head, good))
		g, err := model.Decode(b)
		if again, _ := model.Encode(g); err != api.OK || !bytes.Equal(again, b) {
			t.Errorf("Decode of %x: %v, error %d", b, g, err)
		}
	}
	for _, bad := range [][]byte{
		{}, {0}, {0, 0}, {0, 0, 0, 4}, {0, 4, 0, 0}, {0, 3}, {0, 5}, {0, 1, 0, 3}, {0, 2, 0, 2}, {0, 1, 0, 1, 0, 1, 0, 1}, {1, 0, 0, 1, 0, 2}, {1, 0, 0, 0, 0, 3},
		{1, 0, 0, 4}, {1, 0, 0, 2}, {0, 3, 1}, {0, 4, 1, 0}, {0, 3, 0, 1}, {1, 0, 1, 0, 1, 0, 1, 0, 0, 1}, {0, 0, 1, 0, 1, 0, 1, 0, 1, 0}, {1, 0, 1, 0, 1, 0, 1, 0, 0, 0},
		slices.Concat([]byte{0}, binary.AppendUvarint(nil, api.MaxVar)), slices.Concat([]byte{0}, binary.AppendUvarint(nil, 1<<32+4)),
	} {
		expectNoGrid(t, sealed(slices.Concat(head, bad)))
	}
}

// P9.9: bytes that are missing or too many, numbers with more groups than they need, and numbers that are too large.
func TestDecodeOfDamagedBytes(t *testing.T) {
	body := plainBody(api.Grid{Raster: api.Raster{X0: 1, Y0: -500, Step: 300, NX: 3, NY: 2}, Cells: []api.Cell{void, cell(1, 2), void, void, cell(-300, 300), cell(5, 5)}})
	if _, err := model.Decode(sealed(body)); err != api.OK {
		t.Fatalf("Decode: error %d", err)
	}
	for size := range body {
		expectNoGrid(t, sealed(body[:size]))
		expectNoGrid(t, sealed(body)[:size])
	}
	for size := range 4 {
		expectNoGrid(t, sealed(body)[:len(body)+size])
	}
	for _, behind := range [][]byte{{0}, {1}, {0x80}, {0, 1}, {1, 0}, body} {
		expectNoGrid(t, sealed(slices.Concat(body, behind)))
		expectNoGrid(t, slices.Concat(sealed(body), behind))
	}
	for i := range body {
		if body[i] < 128 { // a last group, to which a group of 0 is added
			expectNoGrid(t, sealed(slices.Concat(body[:i], []byte{body[i] | 128, 0}, body[i+1:])))
		}
		expectNoGrid(t, sealed(slices.Concat(body[:i], bytes.Repeat([]byte{255}, 40))))
	}
	expectNoGrid(t, nil)
	expectNoGrid(t, sealed(nil))
	expectNoGrid(t, make([]byte, 100000))
	expectNoGrid(t, sealed(make([]byte, 100000)))
}

// P9.9: numbers whose sums do not fit, or fit again after others, are no heights.
func TestDecodeOfGreatNumbers(t *testing.T) {
	great := binary.AppendUvarint(nil, api.MaxVar)
	up, down := binary.AppendVarint(nil, 1<<61-1), binary.AppendVarint(nil, -1<<61)
	one := []byte{1}
	for _, cells := range [][][]byte{
		{great, {0}}, {great, up}, {great, down}, {one, up}, {one, down}, {one, up, one, down, one, {2}}, {one, up, one, up, one, up, one, up, one, up, one, up, one, up, one, up, one, {16}},
	} {
		head := plainHead(api.Raster{Step: 10, NX: len(cells) / 2, NY: 1})
		expectNoGrid(t, sealed(append(head, slices.Concat(cells...)...)))
	}
	for k := range 5 {
		numbers := [][]byte{{0}, {0}, {10}, {1}, {1}, {1}, {0}}
		for _, n := range [][]byte{great, up, down} {
			numbers[k] = n
			expectNoGrid(t, sealed(slices.Concat(numbers...)))
		}
	}
	expectNoGrid(t, sealed(slices.Concat([]byte{0, 0, 10}, great, great, []byte{0}, great)))
}

// P9.9: a changed byte is not accepted.
func TestDecodeOfChangedBytes(t *testing.T) {
	b := sealed(plainBody(row(cell(3, 5), void, void, cell(1, 1), cell(100000, 200000))))
	for i := range b {
		for change := 1; change < 256; change++ {
			other := bytes.Clone(b)
			other[i] ^= byte(change)
			expectNoGrid(t, other)
		}
	}
}

// P9.15: whatever the bytes are, they are no grid, or one whose encoding they are.
func TestDecodeOfAnything(t *testing.T) {
	found := 0
	expect := func(b []byte) {
		got, err := model.Decode(b)
		if err != api.OK {
			expectNoGrid(t, b)
			return
		}
		found++
		if again, err := model.Encode(got); err != api.OK || !bytes.Equal(again, b) {
			t.Errorf("%x is read as %v, whose encoding is %x, error %d", b, got, again, err)
		}
	}
	r := rand.New(rand.NewSource(62))
	for range 1000 {
		body := plainBody(randomGrid(r, randomRaster(r)))
		for range 20 {
			other := bytes.Clone(body)
			other[r.Intn(len(other))] = byte(r.Intn(256) >> r.Intn(8))
			expect(sealed(other))
		}
	}
	for range 50000 {
		b := []byte{byte(r.Intn(256)), byte(r.Intn(256)), byte(1 + r.Intn(9)), byte(1 + r.Intn(3)), byte(1 + r.Intn(2))}
		for range r.Intn(12) {
			b = append(b, byte(r.Intn(256)>>r.Intn(9)))
		}
		expect(sealed(b))
	}
	if found < 3000 {
		t.Errorf("only %d grids were read", found)
	}
}

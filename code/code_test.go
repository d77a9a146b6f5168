package code_test

import (
	"bytes"
	"math/rand"
	"slices"
	"testing"

	"lidar/api"
	"lidar/code"
)

// near and far are points of which every number is another one.
var (
	near = api.Point{Id: 300, X: 1, Y: -2, Z: api.Span{Lo: -3, Hi: 4}, Wide: 5, Num: 6, Of: 8, Class: 9}
	far  = api.Point{Id: 302, X: -64, Y: 64, Z: api.Span{Lo: 100, Hi: 100}, Wide: 128, Num: 1, Of: 1, Class: 255}
)

// bytesOfBoth is how the points near and far are encoded.
func bytesOfBoth() []byte {
	return []byte{2, 0xac, 2, 2, 3, 5, 7, 5, 6, 8, 9, 2, 0x7f, 0x80, 1, 0xc8, 1, 0, 0x80, 1, 1, 1, 0xff, 1}
}

// P8.5: the numbers of points in their order, Ids and spans as differences.
func TestAppendPoints(t *testing.T) {
	got := code.AppendPoints([]byte{77}, []api.Point{near, far})
	if want := append([]byte{77}, bytesOfBoth()...); !bytes.Equal(got, want) {
		t.Errorf("the points are %x, not %x", got, want)
	}
	if got := code.AppendPoints(nil, nil); !bytes.Equal(got, []byte{0}) {
		t.Errorf("no points are %x", got)
	}
}

func TestReadPoints(t *testing.T) {
	r := code.NewReader(append(bytesOfBoth(), 0, 5))
	if got := r.Points(); !slices.Equal(got, []api.Point{near, far}) {
		t.Errorf("the points are %v", got)
	}
	if r.Ended() {
		t.Error("the reader has ended too early")
	}
	if got := r.Points(); len(got) != 0 || r.Number() != 5 || !r.Ended() {
		t.Errorf("no points are %v", got)
	}
}

// Ids in ascending order and numbers of any size come back.
func TestPointsAndBack(t *testing.T) {
	random := rand.New(rand.NewSource(1))
	for range 200 {
		var points []api.Point
		id := 0
		for range random.Intn(20) {
			number := func(bits int) int { return random.Intn(1<<bits) >> random.Intn(bits) }
			lo := number(29) - 1<<28
			points = append(points, api.Point{Id: id, X: number(29) - 1<<28, Y: number(29) - 1<<28, Z: api.Span{Lo: lo, Hi: lo + number(28)}, Wide: number(28), Num: number(4), Of: number(4), Class: number(8)})
			id += 1 + number(55)
		}
		r := code.NewReader(code.AppendPoints(nil, points))
		if got := r.Points(); !slices.Equal(got, points) || !r.Ended() {
			t.Fatalf("the points %v come back as %v", points, got)
		}
	}
}

func TestNumbers(t *testing.T) {
	list := []int{0, 1, 127, 128, 300, 1 << 40, api.MaxVar}
	b := code.Append([]byte{9}, list...)
	if !bytes.Equal(b[:8], []byte{9, 0, 1, 127, 0x80, 1, 0xac, 2}) {
		t.Errorf("the numbers are %x", b)
	}
	r := code.NewReader(b[1:])
	for _, n := range list {
		if got := r.Number(); got != n || r.Ended() != (n == api.MaxVar) {
			t.Errorf("%d comes back as %d", n, got)
		}
	}
	if got := code.Append([]byte{9}); !bytes.Equal(got, []byte{9}) {
		t.Errorf("no numbers are %x", got)
	}
}

func TestSigned(t *testing.T) {
	list := []int{0, -1, 1, -2, 63, -64, 64, -1 << 61, 1<<61 - 1}
	b := code.AppendSigned([]byte{9}, list...)
	if !bytes.Equal(b[:9], []byte{9, 0, 1, 2, 3, 126, 127, 0x80, 1}) {
		t.Errorf("the numbers are %x", b)
	}
	r := code.NewReader(b[1:])
	for i, n := range list {
		if got := r.Signed(); got != n || r.Ended() != (i == len(list)-1) {
			t.Errorf("%d comes back as %d", n, got)
		}
	}
	if got := code.AppendSigned([]byte{9}); !bytes.Equal(got, []byte{9}) {
		t.Errorf("no numbers are %x", got)
	}
}

// Behind what cannot be read there are zeros, and the reader never ends well.
func TestBadBytes(t *testing.T) {
	for _, bad := range [][]byte{{}, {0x80}, {0x80, 0}, bytes.Repeat([]byte{255}, 12)} {
		r := code.NewReader(bad)
		for range 3 {
			if r.Number() != 0 || r.Signed() != 0 || r.Count() != 0 || len(r.Points()) != 0 || r.Ended() {
				t.Errorf("%x can be read", bad)
			}
		}
	}
	both := bytesOfBoth()
	for size := range both {
		if r := code.NewReader(both[:size]); len(r.Points()) > 2 || r.Ended() {
			t.Errorf("%x are points", both[:size])
		}
	}
}

// A count is at most the number of the bytes that follow.
func TestCount(t *testing.T) {
	for _, b := range [][]byte{{1}, {3, 0, 0}, {0x80, 1, 5}, code.Append(nil, api.MaxVar, 5, 5)} {
		r := code.NewReader(b)
		if got := r.Count(); got != 0 || r.Number() != 0 || r.Ended() {
			t.Errorf("the count of %x is %d", b, got)
		}
		if r := code.NewReader(b); len(r.Points()) != 0 || r.Ended() {
			t.Errorf("%x are points", b)
		}
	}
	for _, b := range [][]byte{{0}, {1, 5}, {2, 5, 5}} {
		r := code.NewReader(b)
		n := r.Count()
		for range n {
			if r.Number() != 5 {
				t.Errorf("the items of %x are not there", b)
			}
		}
		if n != int(b[0]) || !r.Ended() {
			t.Errorf("the count of %x is %d", b, n)
		}
	}
}

// P8.5: the checksum of layer 2, the most significant byte first.
func TestSeal(t *testing.T) {
	text := []byte("123456789")
	sealed := code.Seal(bytes.Clone(text))
	if want := append(bytes.Clone(text), 0xcb, 0xf4, 0x39, 0x26); !bytes.Equal(sealed, want) {
		t.Errorf("Seal returns %x", sealed)
	}
	for _, b := range [][]byte{nil, {0}, text, make([]byte, 500)} {
		sealed := code.Seal(bytes.Clone(b))
		if body, right := code.Unseal(sealed); !right || !bytes.Equal(body, b) {
			t.Errorf("Unseal of %x returns %x", sealed, body)
		}
		for i := range sealed {
			sealed[i]++
			if body, right := code.Unseal(sealed); right || len(body) != 0 {
				t.Errorf("%x has a seal", sealed)
			}
			sealed[i]--
		}
	}
	for size := range code.SumBytes {
		if body, right := code.Unseal(make([]byte, size)); right || len(body) != 0 {
			t.Errorf("%d bytes have a seal", size)
		}
	}
}

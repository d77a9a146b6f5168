package link_test

import (
	"bytes"
	"hash/crc32"
	"math/rand"
	"testing"

	"lidar/api"
	"lidar/link"
)

// P2.1
func TestChecksum(t *testing.T) {
	if got := link.Checksum([]byte("123456789")); got != 0xcbf43926 {
		t.Errorf("Checksum of 123456789 = %x", got)
	}
	if link.Checksum(nil) != 0 || link.Checksum([]byte{}) != 0 {
		t.Error("the checksum of nothing is not 0")
	}
	r := rand.New(rand.NewSource(1))
	for n := range 300 {
		b := randomBytes(r, n)
		before := bytes.Clone(b)
		if got, want := link.Checksum(b), crc32.ChecksumIEEE(b); got != want {
			t.Errorf("Checksum of %x = %x, want %x", b, got, want)
		}
		if !bytes.Equal(b, before) {
			t.Error("Checksum has changed its argument")
		}
	}
}

// P2.1
func TestPack(t *testing.T) {
	got, err := link.Pack(api.Frame{Stream: 1, Seq: 2, Body: []byte{7}})
	want := sealed([]byte{0xa5, 1, 0, 0, 0, 2, 0, 1, 7})
	if err != api.OK || !bytes.Equal(got, want) {
		t.Errorf("Pack = %x, error %d, want %x", got, err, want)
	}
	r := rand.New(rand.NewSource(2))
	for _, stream := range []int{0, 1, 0xa5, 255} {
		for _, seq := range []int{0, 1, 255, 256, 1<<16 + 2, 0x12345678, 1 << 31, api.MaxSeq} {
			for _, n := range lengths {
				f := api.Frame{Stream: stream, Seq: seq, Body: randomBytes(r, n)}
				body := bytes.Clone(f.Body)
				got, err := link.Pack(f)
				if err != api.OK || !bytes.Equal(got, encoding(f)) {
					t.Errorf("Pack of stream %d, Seq %d, %d bytes = %x, error %d", stream, seq, n, got, err)
				}
				clear(got)
				if !bytes.Equal(f.Body, body) {
					t.Error("the result of Pack shares memory with the body")
				}
			}
		}
	}
}

// P2.1
func TestPackOfNoFrame(t *testing.T) {
	frames := []api.Frame{{Stream: 256}, {Seq: api.MaxSeq + 1}, {Body: make([]byte, api.MaxBody+1)}, {Body: make([]byte, 1<<16)}}
	for _, n := range outside {
		frames = append(frames, api.Frame{Stream: n}, api.Frame{Seq: n})
	}
	for _, f := range frames {
		if b, err := link.Pack(f); err != api.ErrFrame || len(b) != 0 {
			t.Errorf("Pack of stream %d, Seq %d, %d bytes = %x, error %d", f.Stream, f.Seq, len(f.Body), b, err)
		}
	}
}

// P2.2, P2.13
func TestUnpackOfPack(t *testing.T) {
	r := rand.New(rand.NewSource(3))
	for _, n := range lengths {
		for range 20 {
			f := api.Frame{Stream: r.Intn(256), Seq: r.Intn(api.MaxSeq + 1), Body: randomBytes(r, n)}
			b := encoding(f)
			behind := append(bytes.Clone(b), randomBytes(r, r.Intn(20))...)
			before := bytes.Clone(behind)
			got, size, err := link.Unpack(behind)
			if err != api.OK || size != len(b) || !sameFrame(got, f) {
				t.Fatalf("Unpack of %x = %v, %d, error %d", behind, got, size, err)
			}
			clear(got.Body)
			if !bytes.Equal(behind, before) {
				t.Fatal("the result of Unpack shares memory with its argument")
			}
		}
	}
}

func expectUnpack(t *testing.T, b []byte, want api.Errno) {
	t.Helper()
	f, size, err := link.Unpack(b)
	if err != want || size != 0 || !sameFrame(f, api.Frame{}) {
		t.Errorf("Unpack of %x = %v, %d, error %d, want error %d", b, f, size, err, want)
	}
}

// P2.2: the errors, in their order.
func TestUnpackErrors(t *testing.T) {
	expectUnpack(t, nil, api.ErrShort)
	expectUnpack(t, []byte{}, api.ErrShort)
	for c := range 256 {
		if c != 0xa5 {
			expectUnpack(t, []byte{byte(c)}, api.ErrMark)
			expectUnpack(t, append([]byte{byte(c)}, encoding(api.Frame{})...), api.ErrMark)
		}
	}
	for _, body := range [][]byte{nil, {1}, bytes.Repeat([]byte{0xa5}, 300), make([]byte, api.MaxBody)} {
		b := encoding(api.Frame{Stream: 9, Seq: 8, Body: body})
		for n := range b {
			expectUnpack(t, b[:n], api.ErrShort) // although the rest lies behind the end of the list
		}
	}
	long := []byte{0xa5, 0, 0, 0, 0, 0, 4, 1}
	expectUnpack(t, long, api.ErrLong)
	expectUnpack(t, []byte{0xa5, 0, 0, 0, 0, 0, 0xff, 0xff}, api.ErrLong)
	expectUnpack(t, sealed(append(long, make([]byte, api.MaxBody+1)...)), api.ErrLong)
	expectUnpack(t, long[:7], api.ErrShort)
	expectUnpack(t, []byte{0xa5, 0, 0, 0, 0, 0, 4, 0}, api.ErrShort)
	b := encoding(api.Frame{Stream: 9, Seq: 8, Body: []byte{1, 2, 3}})
	for i := len(b) - 4; i < len(b); i++ {
		b[i] ^= 1
		expectUnpack(t, b, api.ErrSum)
		b[i] ^= 1
	}
	expectUnpack(t, append(b[:len(b)-4:len(b)-4], 0, 0, 0, 0, 1, 2, 3, 4), api.ErrSum)
}

// P2.13: every change of one byte, also with bytes behind the encoding.
func TestChangedByte(t *testing.T) {
	r := rand.New(rand.NewSource(4))
	for _, n := range []int{0, 1, 5, 260} {
		f := api.Frame{Stream: 3, Seq: 1 << 20, Body: randomBytes(r, n)}
		size := len(encoding(f))
		b := append(encoding(f), randomBytes(r, 300)...)
		for i := range size {
			for change := 1; change < 256; change += 1 + r.Intn(3) {
				b[i] ^= byte(change)
				for _, list := range [][]byte{b, b[:size]} {
					got, _, err := link.Unpack(list)
					if err == api.OK && len(got.Body) == n {
						t.Errorf("byte %d of %x is changed, and Unpack returns %v", i, list, got)
					}
				}
				b[i] ^= byte(change)
			}
		}
	}
}

func expectScan(t *testing.T, b []byte, want []api.Frame, wantSkipped, wantRest int) {
	t.Helper()
	before := bytes.Clone(b)
	frames, skipped, rest := link.Scan(b)
	if !sameFrames(frames, want) || skipped != wantSkipped || rest != wantRest {
		t.Errorf("Scan of %x = %v, %d, %d, want %v, %d, %d", b, frames, skipped, rest, want, wantSkipped, wantRest)
	}
	for _, f := range frames {
		clear(f.Body)
	}
	if !bytes.Equal(b, before) {
		t.Error("the result of Scan shares memory with its argument")
	}
}

func joined(parts ...[]byte) []byte {
	return bytes.Join(parts, nil)
}

// P2.3
func TestScan(t *testing.T) {
	f := api.Frame{Stream: 1, Seq: 2, Body: []byte{7, 8}}
	g := api.Frame{Stream: 0xa5, Seq: api.MaxSeq}
	a, b := encoding(f), encoding(g)
	expectScan(t, nil, nil, 0, 0)
	expectScan(t, []byte{0xa5}, nil, 0, 1)
	expectScan(t, []byte{0, 1, 2}, nil, 3, 0)
	expectScan(t, joined([]byte{0}, a), []api.Frame{f}, 1, 0)
	expectScan(t, joined(a, b, a), []api.Frame{f, g, f}, 0, 0)
	expectScan(t, joined(a, []byte{1, 2}, b, []byte{3}), []api.Frame{f, g}, 3, 0)
	expectScan(t, joined(a, b[:11]), []api.Frame{f}, 0, 11)
	expectScan(t, joined(a, []byte{5}, b[:7]), []api.Frame{f}, 1, 7)
	// A mark whose length is too great is skipped alone, so that a frame behind it is found.
	expectScan(t, joined([]byte{0xa5, 0, 0, 0, 0, 0, 4, 1}, a), []api.Frame{f}, 8, 0)
	// What may still become a frame stops Scan, although a frame begins within it.
	expectScan(t, joined([]byte{0xa5, 0, 0, 0, 0, 0, 4, 0}, a), nil, 0, 8+len(a))
	expectScan(t, joined([]byte{9, 0xa5}, a[:5]), nil, 1, 6)
	// A frame with a wrong checksum is skipped by bytes, and a frame within it is found.
	inner := api.Frame{Stream: 4, Seq: 4, Body: a}
	broken := encoding(inner)
	broken[3] ^= 1
	expectScan(t, joined(broken, b), []api.Frame{f, g}, len(broken)-len(a), 0)
	// A complete frame is taken as a whole: frames within its body are none.
	expectScan(t, encoding(inner), []api.Frame{inner}, 0, 0)
}

// scanned is Scan, as the chapter defines it.
func scanned(b []byte) (frames []api.Frame, skipped, rest int) {
	for len(b) > 0 {
		f, size, err := link.Unpack(b)
		if err == api.ErrShort {
			break
		}
		if err == api.OK {
			frames = append(frames, f)
		} else {
			size = 1
			skipped++
		}
		b = b[size:]
	}
	return frames, skipped, len(b)
}

// P2.3: frames among other bytes, with damages.
func TestScanOfStreams(t *testing.T) {
	r := rand.New(rand.NewSource(5))
	for range 300 {
		var b []byte
		for range r.Intn(6) {
			b = append(b, encoding(randomFrame(r, r.Intn(256)))...)
			b = append(b, randomBytes(r, r.Intn(3))...)
		}
		for range r.Intn(3) {
			if len(b) > 0 {
				b[r.Intn(len(b))] = []byte{0, 1, 0xa5}[r.Intn(3)]
			}
		}
		b = b[:len(b)-r.Intn(len(b)/2+1)]
		frames, skipped, rest := scanned(b)
		expectScan(t, b, frames, skipped, rest)
	}
}

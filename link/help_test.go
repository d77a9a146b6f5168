package link_test

import (
	"bytes"
	"encoding/binary"
	"hash/crc32"
	"math/rand"
	"testing"

	"lidar/api"
	"lidar/link"
)

// outside are integers that lie below or above every limit of this layer.
var outside = []int{-1 << 63, -1 << 32, -1, 1 << 32, 1 << 40, 1<<63 - 1}

// encoding returns the encoding of a frame, as the chapter defines it, made by the library.
func encoding(f api.Frame) []byte {
	b := []byte{0xa5, byte(f.Stream)}
	b = binary.BigEndian.AppendUint32(b, uint32(f.Seq))
	b = binary.BigEndian.AppendUint16(b, uint16(len(f.Body)))
	return sealed(append(b, f.Body...))
}

// sealed returns b with its checksum behind it.
func sealed(b []byte) []byte {
	return binary.BigEndian.AppendUint32(b, crc32.ChecksumIEEE(b))
}

func randomBytes(r *rand.Rand, n int) []byte {
	b := make([]byte, n)
	r.Read(b)
	return b
}

// lengths are lengths of bodies, with the limits.
var lengths = []int{0, 1, 2, 7, 255, 256, 257, api.MaxBody - 1, api.MaxBody}

func randomFrame(r *rand.Rand, stream int) api.Frame {
	return api.Frame{Stream: stream, Seq: r.Intn(api.MaxSeq + 1), Body: randomBytes(r, r.Intn(40))}
}

func cloned(list [][]byte) [][]byte {
	out := make([][]byte, len(list))
	for i, b := range list {
		out[i] = bytes.Clone(b)
	}
	return out
}

func sameFrame(f, g api.Frame) bool {
	return f.Stream == g.Stream && f.Seq == g.Seq && bytes.Equal(f.Body, g.Body)
}

func sameFrames(a, b []api.Frame) bool {
	if len(a) != len(b) {
		return false
	}
	for i := range a {
		if !sameFrame(a[i], b[i]) {
			return false
		}
	}
	return true
}

func sameLists(a, b [][]byte) bool {
	if len(a) != len(b) {
		return false
	}
	for i := range a {
		if !bytes.Equal(a[i], b[i]) {
			return false
		}
	}
	return true
}

func sameDeliveries(a, b []api.Delivery) bool {
	if len(a) != len(b) {
		return false
	}
	for i := range a {
		if a[i].Seq != b[i].Seq || a[i].Lost != b[i].Lost || !bytes.Equal(a[i].Body, b[i].Body) {
			return false
		}
	}
	return true
}

func sameInts(a, b []int) bool {
	if len(a) != len(b) {
		return false
	}
	for i := range a {
		if a[i] != b[i] {
			return false
		}
	}
	return true
}

func newSender(t *testing.T, stream, window int) *link.Sender {
	t.Helper()
	s, err := link.NewSender(stream, window)
	if err != api.OK || s == nil {
		t.Fatalf("NewSender(%d, %d) returns %v, error %d", stream, window, s, err)
	}
	return s
}

func newReceiver(t *testing.T, stream, window, next int) *link.Receiver {
	t.Helper()
	r, err := link.NewReceiver(stream, window, next)
	if err != api.OK || r == nil {
		t.Fatalf("NewReceiver(%d, %d, %d) returns %v, error %d", stream, window, next, r, err)
	}
	return r
}

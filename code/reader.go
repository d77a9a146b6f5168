package code

import (
	"lidar/api"
	"lidar/link"
)

// Reader reads what was appended, from the first byte on. Behind bytes that it cannot read it finds nothing but zeros.
type Reader struct {
	rest []byte
	bad  bool
}

// NewReader returns a reader of b, which it keeps.
func NewReader(b []byte) *Reader {
	return &Reader{rest: b}
}

func (r *Reader) next(read func([]byte) (int, int, api.Errno)) int {
	n, size, err := read(r.rest)
	if r.bad || err != api.OK {
		r.bad = true
		return 0
	}
	r.rest = r.rest[size:]
	return n
}

// Number reads a number.
func (r *Reader) Number() int {
	return r.next(link.ReadNumber)
}

// Signed reads a signed number.
func (r *Reader) Signed() int {
	return r.next(link.ReadSigned)
}

// Count reads how many items follow, each of which has a byte at least: nobody needs to count further than there are bytes.
func (r *Reader) Count() int {
	n := r.Number()
	if n > len(r.rest) {
		r.bad = true
		return 0
	}
	return n
}

// Points reads points, which need not be valid.
func (r *Reader) Points() []api.Point {
	var points []api.Point
	list, before := fields(), 0
	for range r.Count() {
		var s api.Point
		for _, f := range list {
			*f.in(&s) = r.next(f.read)
		}
		p := full(s, before)
		points = append(points, p)
		before = p.Id
	}
	return points
}

// Ended reports whether all bytes were read, and each of them could be.
func (r *Reader) Ended() bool {
	return !r.bad && len(r.rest) == 0
}

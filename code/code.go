// Package code encodes points and the numbers around them, with the checksum that ends an encoding, for all that is stored or handed on.
package code

import (
	"lidar/api"
	"lidar/link"
)

// SumBytes is the length of the checksum.
const SumBytes = 4

// codec are both directions of an encoding of numbers.
type codec struct {
	write func(b []byte, n int) ([]byte, api.Errno)
	read  func(b []byte) (int, int, api.Errno)
}

// field is a number of a point's encoding.
type field struct {
	codec
	in func(p *api.Point) *int
}

// fields returns the numbers of a point in the order of their encoding, so that this order is written down once for both directions. They are those of a short point.
func fields() []field {
	number := codec{link.Number, link.ReadNumber}
	signed := codec{link.Signed, link.ReadSigned}
	return []field{
		{number, func(p *api.Point) *int { return &p.Id }},
		{signed, func(p *api.Point) *int { return &p.X }},
		{signed, func(p *api.Point) *int { return &p.Y }},
		{signed, func(p *api.Point) *int { return &p.Z.Lo }},
		{number, func(p *api.Point) *int { return &p.Z.Hi }},
		{number, func(p *api.Point) *int { return &p.Wide }},
		{number, func(p *api.Point) *int { return &p.Num }},
		{number, func(p *api.Point) *int { return &p.Of }},
		{number, func(p *api.Point) *int { return &p.Class }},
	}
}

// short returns a point whose Id is counted from the Id in front of it, and the upper end of whose span from the lower one.
func short(p api.Point, before int) api.Point {
	p.Id -= before
	p.Z.Hi -= p.Z.Lo
	return p
}

// full returns the point that short has made shorter.
func full(p api.Point, before int) api.Point {
	p.Id += before
	p.Z.Hi += p.Z.Lo
	return p
}

// Append returns b with the encodings of numbers from 0 to api.MaxVar appended.
func Append(b []byte, numbers ...int) []byte {
	return appendAll(b, link.Number, numbers)
}

// AppendSigned returns b with the encodings of signed numbers from -2^61 to 2^61 - 1 appended.
func AppendSigned(b []byte, numbers ...int) []byte {
	return appendAll(b, link.Signed, numbers)
}

func appendAll(b []byte, write func([]byte, int) ([]byte, api.Errno), numbers []int) []byte {
	for _, n := range numbers {
		b = append(b, written(write, n)...)
	}
	return b
}

// AppendPoints returns b with the Number of how many points there are and their encodings appended. The points are valid, in ascending order of their Ids, and their classes are not negative.
func AppendPoints(b []byte, points []api.Point) []byte {
	b = Append(b, len(points))
	list, before := fields(), 0
	for _, p := range points {
		s := short(p, before)
		for _, f := range list {
			b = append(b, written(f.write, *f.in(&s))...)
		}
		before = p.Id
	}
	return b
}

// written returns the encoding of a number alone: what it is appended to is copied, so it must not be long.
func written(write func([]byte, int) ([]byte, api.Errno), n int) []byte {
	b, _ := write(nil, n)
	return b
}

// Seal returns b with its checksum appended.
func Seal(b []byte) []byte {
	sum := link.Checksum(b)
	return append(b, byte(sum>>24), byte(sum>>16), byte(sum>>8), byte(sum))
}

// Unseal returns the part of b in front of the checksum that ends it, and whether it is the right one.
func Unseal(b []byte) ([]byte, bool) {
	if len(b) < SumBytes {
		return nil, false
	}
	body, end := b[:len(b)-SumBytes], b[len(b)-SumBytes:]
	sum := uint32(end[0])<<24 | uint32(end[1])<<16 | uint32(end[2])<<8 | uint32(end[3])
	if link.Checksum(body) != sum {
		return nil, false
	}
	return body, true
}

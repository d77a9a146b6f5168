package track

import (
	"lidar/api"
	"lidar/link"
)

// The first byte of an encoding.
const (
	fixMark  = 0
	syncMark = 1
)

// Encode returns the encoding of a navigation record.
func Encode(n api.Nav) ([]byte, api.Errno) {
	if err := recordError(n); err != api.OK {
		return nil, err
	}
	b := []byte{fixMark}
	if n.IsSync {
		b[0] = syncMark
	}
	writer := func(encode func([]byte, int) ([]byte, api.Errno)) func(...*int) {
		return func(fields ...*int) {
			for _, field := range fields {
				b, _ = encode(b, *field) // no error: the record is valid
			}
		}
	}
	eachField(&n, writer(link.Number), writer(link.Signed))
	return b, api.OK
}

// Decode returns the navigation record whose encoding is b.
func Decode(b []byte) (api.Nav, api.Errno) {
	if len(b) == 0 || b[0] != fixMark && b[0] != syncMark {
		return api.Nav{}, api.ErrForm
	}
	n := api.Nav{IsSync: b[0] == syncMark}
	rest, read := b[1:], true
	reader := func(decode func([]byte) (int, int, api.Errno)) func(...*int) {
		return func(fields ...*int) {
			for _, field := range fields {
				value, size, err := decode(rest)
				read = read && err == api.OK
				*field = value
				rest = rest[size:]
			}
		}
	}
	eachField(&n, reader(link.ReadNumber), reader(link.ReadSigned))
	if !read || len(rest) > 0 || recordError(n) != api.OK {
		return api.Nav{}, api.ErrForm
	}
	return n, api.OK
}

// recordError returns what is wrong with a navigation record.
func recordError(n api.Nav) api.Errno {
	switch {
	case !n.IsSync && !ValidFix(n.Fix):
		return api.ErrFix
	case n.IsSync && !ValidSync(n.Sync):
		return api.ErrSync
	case !n.IsSync && n.Sync != api.Sync{}, n.IsSync && n.Fix != api.Fix{}:
		return api.ErrArg
	}
	return api.OK
}

// eachField gives the fields of a fix or sync to number and signed, in the order of their encoding, so that this order is written down once for both directions.
func eachField(n *api.Nav, number, signed func(...*int)) {
	if s := &n.Sync; n.IsSync {
		number(&s.Scan, &s.Nav, &s.Err)
		return
	}
	f := &n.Fix
	number(&f.Time)
	signed(&f.Pos[0], &f.Pos[1], &f.Pos[2])
	number(&f.Err)
	signed(&f.Quat[0], &f.Quat[1], &f.Quat[2], &f.Quat[3])
	number(&f.Tilt)
}

package link

import "lidar/api"

const (
	groupBits   = 7
	another     = 1 << groupBits // the bit of a byte behind which another group follows
	mostGroups  = 9              // groups of MaxVar
	leastSigned = -1 << 61
	mostSigned  = 1<<61 - 1
)

// Number returns b with the encoding of n appended, in new memory.
func Number(b []byte, n int) ([]byte, api.Errno) {
	if n < 0 || n > api.MaxVar {
		return nil, api.ErrArg
	}
	z := make([]byte, len(b), len(b)+mostGroups)
	copy(z, b)
	for ; n >= another; n >>= groupBits {
		z = append(z, byte(n%another)|another)
	}
	return append(z, byte(n)), api.OK
}

// Signed returns b with the encoding of the signed number n appended, in new memory.
func Signed(b []byte, n int) ([]byte, api.Errno) {
	switch {
	case n < leastSigned || n > mostSigned:
		return nil, api.ErrArg
	case n < 0:
		return Number(b, -2*n-1)
	}
	return Number(b, 2*n)
}

// ReadNumber returns the number whose encoding is at the beginning of b, and how many bytes it has.
func ReadNumber(b []byte) (int, int, api.Errno) {
	n := 0
	for i, c := range b[:min(len(b), mostGroups)] {
		n |= int(c%another) << (groupBits * i)
		if c >= another {
			continue
		}
		if c == 0 && i > 0 || n > api.MaxVar {
			return 0, 0, api.ErrForm
		}
		return n, i + 1, api.OK
	}
	if len(b) < mostGroups {
		return 0, 0, api.ErrShort
	}
	return 0, 0, api.ErrForm
}

// ReadSigned returns the signed number whose encoding is at the beginning of b, and how many bytes it has.
func ReadSigned(b []byte) (int, int, api.Errno) {
	n, size, err := ReadNumber(b)
	if n%2 == 1 {
		return -(n + 1) / 2, size, err
	}
	return n / 2, size, err
}

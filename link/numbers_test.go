package link_test

import (
	"bytes"
	"encoding/binary"
	"math/rand"
	"testing"

	"lidar/api"
	"lidar/link"
)

// naturals are numbers around the limits of groups, up to MaxVar.
func naturals() []int {
	list := []int{0, 1, 2, 5, 100, 300, api.MaxVar - 1, api.MaxVar}
	for shift := 7; shift <= 61; shift++ {
		list = append(list, 1<<shift-1, 1<<shift, 1<<shift+1)
	}
	return list
}

// wholes are signed numbers around the limits of groups, from -2^61 to 2^61 - 1.
func wholes() []int {
	list := []int{-1 << 61, -1<<61 + 1, 1<<61 - 2, 1<<61 - 1}
	for _, n := range naturals() {
		if n < 1<<61 {
			list = append(list, n, -n, -n-1)
		}
	}
	return list
}

// P2.5: examples
func TestNumberExamples(t *testing.T) {
	for _, c := range []struct {
		n    int
		want []byte
	}{{0, []byte{0}}, {1, []byte{1}}, {127, []byte{0x7f}}, {128, []byte{0x80, 1}}, {300, []byte{0xac, 2}}, {16383, []byte{0xff, 0x7f}}, {16384, []byte{0x80, 0x80, 1}}} {
		if got, err := link.Number(nil, c.n); err != api.OK || !bytes.Equal(got, c.want) {
			t.Errorf("Number of %d = %x, error %d", c.n, got, err)
		}
	}
	for _, c := range []struct {
		n    int
		want []byte
	}{{0, []byte{0}}, {-1, []byte{1}}, {1, []byte{2}}, {-2, []byte{3}}, {2, []byte{4}}, {63, []byte{0x7e}}, {-64, []byte{0x7f}}, {64, []byte{0x80, 1}}, {-65, []byte{0x81, 1}}} {
		if got, err := link.Signed(nil, c.n); err != api.OK || !bytes.Equal(got, c.want) {
			t.Errorf("Signed of %d = %x, error %d", c.n, got, err)
		}
	}
}

// reference returns the encoding of a number, made by the library, whose groups are the same.
func reference(n int) []byte {
	return binary.AppendUvarint(nil, uint64(n))
}

// expectRead checks that a reader gets n back, with bytes of any kind behind the encoding.
func expectRead(t *testing.T, what string, read func([]byte) (int, int, api.Errno), b []byte, n int) {
	t.Helper()
	for _, behind := range [][]byte{nil, {0}, {0x80}, bytes.Repeat([]byte{0xff}, 12)} {
		list := append(bytes.Clone(b), behind...)
		before := bytes.Clone(list)
		got, size, err := read(list)
		if err != api.OK || got != n || size != len(b) {
			t.Errorf("%s of %x = %d, %d, error %d, want %d, %d", what, list, got, size, err, n, len(b))
		}
		if !bytes.Equal(list, before) {
			t.Errorf("%s has changed its argument", what)
		}
	}
}

// P2.5, P2.16
func TestNumberAndBack(t *testing.T) {
	list := naturals()
	r := rand.New(rand.NewSource(1))
	for range 500 {
		list = append(list, r.Int()>>(1+r.Intn(62)))
	}
	for _, n := range list {
		b, err := link.Number(nil, n)
		if err != api.OK || !bytes.Equal(b, reference(n)) {
			t.Errorf("Number of %d = %x, error %d", n, b, err)
		}
		expectRead(t, "ReadNumber", link.ReadNumber, b, n)
	}
}

// P2.5, P2.16
func TestSignedAndBack(t *testing.T) {
	list := wholes()
	r := rand.New(rand.NewSource(2))
	for range 500 {
		n := r.Int() >> (2 + r.Intn(61))
		list = append(list, n, -n)
	}
	for _, n := range list {
		folded := 2 * n
		if n < 0 {
			folded = -2*n - 1
		}
		b, err := link.Signed(nil, n)
		if err != api.OK || !bytes.Equal(b, reference(folded)) {
			t.Errorf("Signed of %d = %x, error %d", n, b, err)
		}
		expectRead(t, "ReadSigned", link.ReadSigned, b, n)
	}
}

// P2.5
func TestNumberOutOfRange(t *testing.T) {
	for _, n := range []int{-1, -2, -1 << 63, api.MaxVar + 1, 1<<63 - 1} {
		if b, err := link.Number([]byte{1}, n); err != api.ErrArg || len(b) != 0 {
			t.Errorf("Number of %d = %x, error %d", n, b, err)
		}
	}
	for _, n := range []int{-1<<61 - 1, -1 << 62, -1 << 63, 1 << 61, 1 << 62, 1<<63 - 1} {
		if b, err := link.Signed([]byte{1}, n); err != api.ErrArg || len(b) != 0 {
			t.Errorf("Signed of %d = %x, error %d", n, b, err)
		}
	}
}

// P2.5, R4: the result begins with b and is new memory, also if b has room behind its end.
func TestNumberAppends(t *testing.T) {
	for _, add := range []func([]byte, int) ([]byte, api.Errno){link.Number, link.Signed} {
		room := []byte{9, 8, 7, 6, 5, 4, 3, 2, 1, 0, 1, 2, 3}
		b := room[:2]
		got, err := add(b, 1000)
		other, _ := add(b, 5)
		alone, _ := add(nil, 1000)
		if err != api.OK || !bytes.Equal(got, append([]byte{9, 8}, alone...)) || len(other) != 3 {
			t.Errorf("1000 behind 9, 8 is %x, error %d", got, err)
		}
		clear(got)
		if !bytes.Equal(room, []byte{9, 8, 7, 6, 5, 4, 3, 2, 1, 0, 1, 2, 3}) {
			t.Errorf("the argument has become %x", room)
		}
	}
}

// P2.5: the errors of both readers, in their order.
func TestReadNumberErrors(t *testing.T) {
	more := func(n int, last ...byte) []byte {
		return append(bytes.Repeat([]byte{0x80}, n), last...)
	}
	full := func(n int, last ...byte) []byte {
		return append(bytes.Repeat([]byte{0xff}, n), last...)
	}
	type test struct {
		b    []byte
		want api.Errno
	}
	cases := []test{{nil, api.ErrShort}, {[]byte{}, api.ErrShort}, {full(8, 0x40), api.ErrForm}, {full(8, 0x7f), api.ErrForm}, {more(8, 0x40), api.ErrForm}, {more(8, 0x40, 0), api.ErrForm}}
	for n := 1; n <= 8; n++ {
		cases = append(cases, test{more(n), api.ErrShort}, test{full(n), api.ErrShort})
		cases = append(cases, test{more(n, 0), api.ErrForm}, test{full(n, 0), api.ErrForm}, test{full(n, 0, 1), api.ErrForm})
	}
	for n := 9; n <= 12; n++ {
		cases = append(cases, test{more(n), api.ErrForm}, test{full(n), api.ErrForm}, test{full(n, 0), api.ErrForm}, test{more(n, 1), api.ErrForm})
	}
	for _, c := range cases {
		if n, size, err := link.ReadNumber(c.b); err != c.want || n != 0 || size != 0 {
			t.Errorf("ReadNumber of %x = %d, %d, error %d, want error %d", c.b, n, size, err, c.want)
		}
		if n, size, err := link.ReadSigned(c.b); err != c.want || n != 0 || size != 0 {
			t.Errorf("ReadSigned of %x = %d, %d, error %d, want error %d", c.b, n, size, err, c.want)
		}
	}
}

// P2.5, P2.16: whatever the bytes are, what is read has these bytes as its encoding.
func TestReadNumberOfAnything(t *testing.T) {
	r := rand.New(rand.NewSource(3))
	for range 20000 {
		b := randomBytes(r, r.Intn(11))
		for i := range b {
			b[i] |= byte(r.Intn(2) << 7)
		}
		n, size, err := link.ReadNumber(b)
		if again, _ := link.Number(nil, n); err == api.OK && !bytes.Equal(again, b[:size]) {
			t.Errorf("ReadNumber of %x = %d, %d", b, n, size)
		}
		s, signedSize, signedErr := link.ReadSigned(b)
		if again, _ := link.Signed(nil, s); signedErr != err || signedSize != size || err == api.OK && !bytes.Equal(again, b[:size]) {
			t.Errorf("ReadSigned of %x = %d, %d, error %d", b, s, signedSize, signedErr)
		}
	}
}

// P2.16
func TestShorterNumbersHaveNoLongerEncodings(t *testing.T) {
	list := naturals()
	for _, a := range list {
		for _, b := range list {
			x, _ := link.Number(nil, a)
			y, _ := link.Number(nil, b)
			if a < b && len(x) > len(y) {
				t.Errorf("%d has %d bytes, but %d has %d", a, len(x), b, len(y))
			}
		}
	}
}

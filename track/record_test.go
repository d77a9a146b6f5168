package track_test

import (
	"bytes"
	"encoding/binary"
	"math/rand"
	"testing"

	"lidar/api"
	"lidar/track"
)

// plainEncoding returns the encoding of a navigation record, made by the library, whose groups of seven bits are the same.
func plainEncoding(n api.Nav) []byte {
	if s := n.Sync; n.IsSync {
		b := binary.AppendUvarint([]byte{1}, uint64(s.Scan))
		b = binary.AppendUvarint(b, uint64(s.Nav))
		return binary.AppendUvarint(b, uint64(s.Err))
	}
	f := n.Fix
	b := binary.AppendUvarint([]byte{0}, uint64(f.Time))
	for _, x := range f.Pos {
		b = binary.AppendVarint(b, int64(x))
	}
	b = binary.AppendUvarint(b, uint64(f.Err))
	for _, x := range f.Quat {
		b = binary.AppendVarint(b, int64(x))
	}
	return binary.AppendUvarint(b, uint64(f.Tilt))
}

func goodRecords() []api.Nav {
	var list []api.Nav
	for _, f := range goodFixes() {
		list = append(list, api.Nav{Fix: f})
	}
	for _, s := range goodSyncs() {
		list = append(list, api.Nav{IsSync: true, Sync: s})
	}
	r := rand.New(rand.NewSource(1))
	for range 1000 {
		list = append(list, api.Nav{Fix: randomFix(r)})
	}
	return list
}

// P4.2, P4.13
func TestEncodeAndBack(t *testing.T) {
	for _, n := range goodRecords() {
		b, err := track.Encode(n)
		if err != api.OK || !bytes.Equal(b, plainEncoding(n)) || len(b) > api.MaxBody {
			t.Errorf("Encode of %v = %x, error %d", n, b, err)
		}
		if again, err := track.Decode(b); err != api.OK || again != n {
			t.Errorf("Decode of %x = %v, error %d, want %v", b, again, err, n)
		}
	}
}

// P4.2: the order of errors, and records of which the other part has any field.
func TestEncodeErrors(t *testing.T) {
	expect := func(n api.Nav, want api.Errno) {
		if b, err := track.Encode(n); err != want || len(b) != 0 {
			t.Errorf("Encode of %v = %x, error %d, want %d", n, b, err, want)
		}
	}
	for _, f := range badFixes() {
		expect(api.Nav{Fix: f}, api.ErrFix)
		expect(api.Nav{Fix: f, Sync: met}, api.ErrFix)
		expect(api.Nav{Fix: f, Sync: api.Sync{Err: -1}}, api.ErrFix)
		if f != (api.Fix{}) {
			expect(api.Nav{IsSync: true, Fix: f, Sync: met}, api.ErrArg)
		}
	}
	for _, s := range badSyncs() {
		expect(api.Nav{IsSync: true, Sync: s}, api.ErrSync)
		expect(api.Nav{IsSync: true, Fix: easy, Sync: s}, api.ErrSync)
		expect(api.Nav{Fix: easy, Sync: s}, api.ErrArg)
	}
	for _, s := range []api.Sync{{Scan: 1}, {Nav: 1}, {Err: 1}} {
		expect(api.Nav{Fix: easy, Sync: s}, api.ErrArg)
	}
	for _, f := range []api.Fix{{Time: 1}, {Pos: [3]int{0, 0, 1}}, {Err: 1}, {Quat: unturned}, {Tilt: 1}, easy} {
		expect(api.Nav{IsSync: true, Fix: f, Sync: met}, api.ErrArg)
	}
}

func expectNoRecord(t *testing.T, b []byte) {
	t.Helper()
	if n, err := track.Decode(b); err != api.ErrForm || n != (api.Nav{}) {
		t.Errorf("Decode of %x = %v, error %d", b, n, err)
	}
}

// P4.2: numbers that can be read, of records that are not valid.
func TestDecodeOfBadRecords(t *testing.T) {
	small := func(n int) bool { return -1<<61 <= n && n < 1<<61 }
	for _, f := range badFixes() {
		ok := f.Time >= 0 && f.Err >= 0 && f.Tilt >= 0
		for _, n := range append(append([]int{f.Time, f.Err, f.Tilt}, f.Pos[:]...), f.Quat[:]...) {
			ok = ok && small(n)
		}
		if ok {
			expectNoRecord(t, plainEncoding(api.Nav{Fix: f}))
		}
	}
	for _, s := range badSyncs() {
		if s.Scan >= 0 && s.Nav >= 0 && s.Err >= 0 {
			expectNoRecord(t, plainEncoding(api.Nav{IsSync: true, Sync: s}))
		}
	}
}

// P4.2: bytes that are missing, bytes that are too many, and numbers with more groups than they need.
func TestDecodeOfDamagedBytes(t *testing.T) {
	for _, n := range []api.Nav{{Fix: easy}, {IsSync: true, Sync: met}, {IsSync: true}, {Fix: api.Fix{Time: 1 << 50, Pos: [3]int{1 << 27, 1, -1 << 27}, Quat: unturned}}} {
		b := plainEncoding(n)
		for size := range b {
			expectNoRecord(t, b[:size])
		}
		for _, behind := range [][]byte{{0}, {1}, {0x80}, b} {
			expectNoRecord(t, append(bytes.Clone(b), behind...))
		}
		for mark := 2; mark < 256; mark++ {
			expectNoRecord(t, append([]byte{byte(mark)}, b[1:]...))
		}
		for i := 1; i < len(b); i++ {
			if b[i] < 128 { // a last group, to which a group of 0 is added
				expectNoRecord(t, append(append(bytes.Clone(b[:i]), b[i]|128, 0), b[i+1:]...))
			}
		}
	}
	expectNoRecord(t, nil)
	expectNoRecord(t, []byte{})
	expectNoRecord(t, append([]byte{1}, bytes.Repeat([]byte{255}, 40)...))
}

// P4.2, P4.13: whatever the bytes are, they are no record, or one whose encoding they are.
func TestDecodeOfAnything(t *testing.T) {
	found := 0
	expect := func(b []byte) {
		n, err := track.Decode(b)
		if err != api.OK {
			expectNoRecord(t, b)
			return
		}
		found++
		if again, err := track.Encode(n); err != api.OK || !bytes.Equal(again, b) {
			t.Errorf("%x is read as %v, whose encoding is %x, error %d", b, n, again, err)
		}
	}
	for _, n := range []api.Nav{{Fix: easy}, {IsSync: true, Sync: met}} {
		b := plainEncoding(n)
		for i := range b {
			for change := range 256 {
				other := bytes.Clone(b)
				other[i] ^= byte(change)
				expect(other)
			}
		}
	}
	r := rand.New(rand.NewSource(2))
	for range 20000 {
		b := make([]byte, r.Intn(16))
		for i := range b {
			b[i] = byte(r.Intn(256) >> r.Intn(8))
		}
		expect(b)
	}
	if found < 1000 {
		t.Errorf("only %d records were read", found)
	}
}

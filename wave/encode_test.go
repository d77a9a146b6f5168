package wave_test

import (
	"bytes"
	"encoding/binary"
	"math/rand"
	"slices"
	"testing"

	"lidar/api"
	"lidar/wave"
)

// plainSteps returns the steps of samples, each found as a list of equal differences that neither neighbour belongs to.
func plainSteps(samples []int) []api.Step {
	var differences []int
	for i, s := range samples {
		if i > 0 {
			s -= samples[i-1]
		}
		differences = append(differences, s)
	}
	var steps []api.Step
	for len(differences) > 0 {
		count := slices.IndexFunc(differences, func(d int) bool { return d != differences[0] })
		if count < 0 {
			count = len(differences)
		}
		steps = append(steps, api.Step{Delta: differences[0], Count: count})
		differences = differences[count:]
	}
	return steps
}

// plainEncoding returns the encoding of a pulse with these steps, made by the library, whose groups of seven bits are the same.
func plainEncoding(time int, scan [4]int, steps []api.Step) []byte {
	b := binary.AppendUvarint(nil, uint64(time))
	for _, n := range scan {
		b = binary.AppendVarint(b, int64(n))
	}
	b = binary.AppendUvarint(b, uint64(len(steps)))
	for _, s := range steps {
		b = binary.AppendVarint(b, int64(s.Delta))
		b = binary.AppendUvarint(b, uint64(s.Count-1))
	}
	return b
}

// P3.1: examples
func TestDifferences(t *testing.T) {
	for _, c := range []struct {
		samples []int
		want    []api.Step
	}{
		{nil, nil},
		{[]int{}, nil},
		{[]int{0}, []api.Step{{Delta: 0, Count: 1}}},
		{[]int{0, 0}, []api.Step{{Delta: 0, Count: 2}}},
		{[]int{3, 6, 9, 9, 9, 0}, []api.Step{{Delta: 3, Count: 3}, {Delta: 0, Count: 2}, {Delta: -9, Count: 1}}},
		{[]int{5, 5, 5, 8, 11}, []api.Step{{Delta: 5, Count: 1}, {Delta: 0, Count: 2}, {Delta: 3, Count: 2}}},
		{[]int{-5, -10, -2}, []api.Step{{Delta: -5, Count: 2}, {Delta: 8, Count: 1}}},
		{[]int{1 << 62, 0, -1 << 62}, []api.Step{{Delta: 1 << 62, Count: 1}, {Delta: -1 << 62, Count: 2}}},
		{[]int{-1 << 61, 1 << 61, 1 << 61}, []api.Step{{Delta: -1 << 61, Count: 1}, {Delta: 1 << 62, Count: 1}, {Delta: 0, Count: 1}}},
		{constant(1000, 4), []api.Step{{Delta: 4, Count: 1}, {Delta: 0, Count: 999}}},
	} {
		if got := wave.Differences(c.samples); !slices.Equal(got, c.want) {
			t.Errorf("Differences of %v = %v, want %v", c.samples, got, c.want)
		}
	}
}

// expectSteps checks the steps of samples, and the way back.
func expectSteps(t *testing.T, samples []int) {
	t.Helper()
	steps := wave.Differences(samples)
	if !slices.Equal(steps, plainSteps(samples)) {
		t.Errorf("Differences of %v = %v", samples, steps)
	}
	if back, err := wave.Rebuild(steps); err != api.OK || !slices.Equal(back, samples) {
		t.Errorf("Rebuild of %v = %v, error %d, want %v", steps, back, err, samples)
	}
}

// P3.1, P3.11
func TestDifferencesAndBack(t *testing.T) {
	allLists(6, 3, func(samples []int) { expectSteps(t, samples) })
	r := rand.New(rand.NewSource(1))
	for range 2000 {
		expectSteps(t, randomSamples(r, api.MaxSamples))
	}
	for _, p := range goodPulses() {
		expectSteps(t, p.Samples)
	}
}

// plainRebuild returns the samples of steps, if they have any, for small steps.
func plainRebuild(steps []api.Step) (samples []int, ok bool) {
	now := 0
	for i, s := range steps {
		if s.Count < 1 || i > 0 && s.Delta == steps[i-1].Delta {
			return nil, false
		}
		for range s.Count {
			now += s.Delta
			samples = append(samples, now)
		}
	}
	if len(samples) > 256 || len(samples) > 0 && (slices.Min(samples) < 0 || slices.Max(samples) > 1023) {
		return nil, false
	}
	return samples, true
}

func expectRebuild(t *testing.T, steps []api.Step) {
	t.Helper()
	want, ok := plainRebuild(steps)
	got, err := wave.Rebuild(steps)
	if ok != (err == api.OK) || !ok && err != api.ErrForm || !slices.Equal(got, want) {
		t.Errorf("Rebuild of %v = %v, error %d, want %v, %v", steps, got, err, want, ok)
	}
}

// P3.1: all short lists of small steps, and steps around the limits.
func TestRebuild(t *testing.T) {
	deltas, counts := []int{-2, -1, 0, 1, 2, 1023}, []int{-1, 0, 1, 2, 3}
	allLists(3, len(deltas)*len(counts)-1, func(list []int) {
		var steps []api.Step
		for _, n := range list {
			steps = append(steps, api.Step{Delta: deltas[n%len(deltas)], Count: counts[n/len(deltas)]})
		}
		expectRebuild(t, steps)
	})
	for _, count := range []int{254, 255, 256, 257, 258, 1000} {
		expectRebuild(t, []api.Step{{Delta: 0, Count: count}})
		expectRebuild(t, []api.Step{{Delta: 1, Count: 1}, {Delta: 0, Count: count}})
		expectRebuild(t, []api.Step{{Delta: 4, Count: count}})
		expectRebuild(t, []api.Step{{Delta: 0, Count: count}, {Delta: 1, Count: 1}})
	}
	for _, delta := range []int{1022, 1023, 1024} {
		expectRebuild(t, []api.Step{{Delta: delta, Count: 1}})
		expectRebuild(t, []api.Step{{Delta: 0, Count: 1}, {Delta: delta, Count: 1}, {Delta: 1 - delta, Count: 1}})
		expectRebuild(t, []api.Step{{Delta: delta, Count: 1}, {Delta: -delta, Count: 1}, {Delta: delta, Count: 1}})
		expectRebuild(t, []api.Step{{Delta: 1, Count: 1}, {Delta: delta, Count: 1}})
	}
}

// P3.1, R1: steps that no samples have, whose sums and counts do not fit into 64 bits.
func TestRebuildOfGreatSteps(t *testing.T) {
	for _, n := range extremes {
		lists := [][]api.Step{{{Delta: n, Count: 1}}, {{Delta: n, Count: 2}}, {{Delta: 1023, Count: 1}, {Delta: n, Count: 1}}, {{Delta: 1, Count: 1}, {Delta: n, Count: 4}, {Delta: 1, Count: 1}}}
		lists = append(lists, []api.Step{{Delta: 0, Count: n}}, []api.Step{{Delta: 5, Count: 1}, {Delta: 0, Count: n}}, []api.Step{{Delta: n, Count: n}})
		for _, steps := range lists {
			if got, err := wave.Rebuild(steps); err != api.ErrForm || len(got) != 0 {
				t.Errorf("Rebuild of %v = %v, error %d", steps, got, err)
			}
		}
	}
	many := slices.Repeat([]api.Step{{Delta: 1, Count: 1}, {Delta: -1, Count: 1}}, 100000)
	if got, err := wave.Rebuild(many); err != api.ErrForm || len(got) != 0 {
		t.Errorf("Rebuild of many steps = %v, error %d", got, err)
	}
	if got, err := wave.Rebuild(many[:api.MaxSamples]); err != api.OK || len(got) != api.MaxSamples {
		t.Errorf("Rebuild of %d steps = %v, error %d", api.MaxSamples, got, err)
	}
}

// encodedPulses are valid pulses of many kinds.
func encodedPulses() []api.Pulse {
	list := goodPulses()
	r := rand.New(rand.NewSource(2))
	for range 500 {
		list = append(list, randomPulse(r))
	}
	for shift := 7; shift <= 50; shift++ {
		list = append(list, api.Pulse{Time: 1<<shift - 1, Scan: unturned}, api.Pulse{Time: 1 << shift, Scan: unturned})
	}
	return list
}

// P3.2: examples
func TestEncodeExamples(t *testing.T) {
	for _, c := range []struct {
		p    api.Pulse
		want []byte
	}{
		{pulse(), []byte{7, 2, 0, 0, 0, 0}},
		{pulse(1, 1, 9), []byte{7, 2, 0, 0, 0, 3, 2, 0, 0, 0, 16, 0}},
		{api.Pulse{Time: 300, Scan: [4]int{0, -1, 64, -1000}, Samples: []int{9, 5, 1}}, []byte{0xac, 2, 0, 1, 0x80, 1, 0xcf, 0x0f, 2, 18, 0, 7, 1}},
		{pulse(constant(256, 0)...), []byte{7, 2, 0, 0, 0, 1, 0, 0xff, 1}},
	} {
		if got, err := wave.Encode(c.p); err != api.OK || !bytes.Equal(got, c.want) {
			t.Errorf("Encode of %v = %x, error %d, want %x", c.p, got, err, c.want)
		}
	}
}

// P3.2, P3.11
func TestEncodeAndBack(t *testing.T) {
	for _, p := range encodedPulses() {
		b, err := wave.Encode(p)
		if err != api.OK || !bytes.Equal(b, plainEncoding(p.Time, p.Scan, plainSteps(p.Samples))) {
			t.Errorf("Encode of %v = %x, error %d", p, b, err)
		}
		if len(b) > api.MaxBody {
			t.Errorf("the encoding of %v has %d bytes", p, len(b))
		}
		if q, err := wave.Decode(b); err != api.OK || !samePulse(p, q) {
			t.Errorf("Decode of %x = %v, error %d, want %v", b, q, err, p)
		}
	}
}

// P3.2
func TestEncodeOfBadPulses(t *testing.T) {
	for _, p := range badPulses() {
		if b, err := wave.Encode(p); err != api.ErrPulse || len(b) != 0 {
			t.Errorf("Encode of %v = %x, error %d", p, b, err)
		}
	}
}

func expectNoPulse(t *testing.T, b []byte) {
	t.Helper()
	if p, err := wave.Decode(b); err != api.ErrForm || !isNoPulse(p) {
		t.Errorf("Decode of %x = %v, error %d", b, p, err)
	}
}

// P3.2: numbers that can be read, of pulses that are not valid or have another encoding.
func TestDecodeOfBadPulses(t *testing.T) {
	one := []api.Step{{Delta: 1, Count: 1}}
	for _, p := range badPulses() {
		steps := plainSteps(p.Samples)
		if uint64(p.Time) <= api.MaxVar && !slices.ContainsFunc(steps, func(s api.Step) bool { return s.Delta < -1<<61 || s.Delta >= 1<<61 }) {
			expectNoPulse(t, plainEncoding(p.Time, p.Scan, steps))
		}
	}
	for _, steps := range [][]api.Step{{one[0], one[0]}, {{Delta: 1, Count: 2}, {Delta: 1, Count: 1}}, {{Delta: 0, Count: 1}, {Delta: 0, Count: 3}}, {{Delta: -1, Count: 1}}, {{Delta: 5, Count: 1}, {Delta: -1, Count: 6}}, {{Delta: 0, Count: 257}}, {{Delta: 0, Count: 255}, {Delta: 1, Count: 2}}, {{Delta: 0, Count: api.MaxVar + 1}}, {{Delta: 1024, Count: 1}}, {{Delta: 1<<61 - 1, Count: 3}}, {{Delta: -1 << 61, Count: 1}}, slices.Repeat([]api.Step{{Delta: 1, Count: 1}, {Delta: -1, Count: 1}}, 129)} {
		expectNoPulse(t, plainEncoding(7, unturned, steps))
	}
	if p, err := wave.Decode(plainEncoding(7, unturned, one)); err != api.OK || !samePulse(p, pulse(1)) {
		t.Errorf("Decode of a pulse with one sample = %v, error %d", p, err)
	}
}

// P3.2: bytes that are missing, bytes that are too many, and numbers that are not encoded as they should be.
func TestDecodeOfDamagedBytes(t *testing.T) {
	for _, p := range encodedPulses() {
		b, _ := wave.Encode(p)
		for size := range b {
			expectNoPulse(t, b[:size])
		}
		for _, behind := range [][]byte{{0}, {1}, {0x80}, {0, 0}, b} {
			expectNoPulse(t, append(bytes.Clone(b), behind...))
		}
	}
	expectNoPulse(t, nil)
	head := plainEncoding(7, unturned, nil)[:5]
	for _, steps := range [][]byte{{0x80}, {0x80, 0}, {0x81, 0, 2, 0}, {1, 0x82, 0, 0}, {1, 2, 0x80, 0}, bytes.Repeat([]byte{0xff}, 9), {0xff, 0xff, 0xff, 0xff, 0xff, 0xff, 0xff, 0xff, 0x3f}, {0xff, 0xff, 0xff, 0xff, 0xff, 0xff, 0xff, 0xff, 0x3f, 2, 0}, {2, 2, 0}, {1, 2}, {1}} {
		expectNoPulse(t, append(bytes.Clone(head), steps...))
	}
}

// P3.2, R1: a number of steps says nothing of how many there are.
func TestDecodeOfManySteps(t *testing.T) {
	head := plainEncoding(7, unturned, nil)[:5]
	for shift := 1; shift < 62; shift++ {
		number := binary.AppendUvarint(bytes.Clone(head), 1<<shift+1)
		expectNoPulse(t, number)
		expectNoPulse(t, append(number, 2, 0, 0, 0))
	}
}

// expectOwnEncoding checks that bytes are no pulse, or one whose encoding they are.
func expectOwnEncoding(t *testing.T, b []byte) {
	t.Helper()
	p, err := wave.Decode(b)
	if err != api.OK {
		expectNoPulse(t, b)
		return
	}
	if again, err := wave.Encode(p); err != api.OK || !bytes.Equal(again, b) {
		t.Errorf("%x is read as %v, whose encoding is %x, error %d", b, p, again, err)
	}
}

// P3.2, P3.11: whatever the bytes are.
func TestDecodeOfAnything(t *testing.T) {
	b, _ := wave.Encode(api.Pulse{Time: 300, Scan: [4]int{0, -1, 64, -1000}, Samples: []int{9, 5, 1, 1, 1, 300}})
	for i := range b {
		for change := 1; change < 256; change++ {
			changed := bytes.Clone(b)
			changed[i] ^= byte(change)
			expectOwnEncoding(t, changed)
		}
	}
	r := rand.New(rand.NewSource(3))
	for range 20000 {
		b := make([]byte, r.Intn(16))
		for i := range b {
			b[i] = byte(r.Intn(256) >> r.Intn(8))
		}
		expectOwnEncoding(t, b)
	}
}

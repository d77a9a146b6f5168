package wave_test

import (
	"bytes"
	"math/rand"
	"slices"
	"testing"

	"lidar/api"
	"lidar/wave"
)

// expectParts checks that the echoes are those of the runs, one behind the other.
func expectParts(t *testing.T, samples []int, d api.Detector) {
	t.Helper()
	echoes := echoesOf(t, samples, d)
	base, _ := wave.Base(samples)
	runs, _ := wave.Runs(samples, base+d.Level)
	at := 0
	for _, run := range runs {
		for from := run[0]; from < run[1] && at < len(echoes); at++ {
			e := echoes[at]
			part := samples[e.From:e.To]
			if e.From != from || e.To <= from || e.To > run[1] || e.Top != slices.Max(part) || e.Peak != e.From+slices.Index(part, e.Top) || e.Level > e.Top || from == run[0] && e.Level != base+d.Level || from > run[0] && e.Level != samples[from]+d.Drop {
				t.Errorf("%v is an echo of the run %v of %v with %v", e, run, samples, d)
			}
			from = e.To
		}
	}
	if at != len(echoes) {
		t.Errorf("the echoes %v of %v are more than its runs have", echoes, samples)
	}
}

// P3.12
func TestEchoesAreNextToEachOther(t *testing.T) {
	r := rand.New(rand.NewSource(1))
	for range 3000 {
		if samples := randomSamples(r, api.MaxSamples); len(samples) > 0 {
			expectParts(t, samples, randomDetector(r))
		}
	}
}

// expectBounds checks that the time at which a signal really crossed each level lies within the bounds, and returns how many times were checked.
func expectBounds(t *testing.T, heights []int, d api.Detector) int {
	t.Helper()
	samples, err := wave.Digitize(heights)
	if err != api.OK {
		t.Fatalf("Digitize of %v: error %d", heights, err)
	}
	checked := 0
	for _, e := range echoesOf(t, samples, d) {
		at, err := wave.Time(samples, e)
		if err != api.OK {
			continue
		}
		j, i := crossing(samples, e)
		if heights[i] <= heights[j] || !contains(at, moment(j, 16*e.Level-heights[j], heights[i]-heights[j])) {
			t.Errorf("%v of %v has the time %v", e, heights, at)
		}
		checked++
	}
	return checked
}

// P3.13, P3
func TestTimesAreBounds(t *testing.T) {
	r := rand.New(rand.NewSource(2))
	checked := 0
	for range 2000 {
		heights := randomSamples(r, api.MaxSamples)
		for i := range heights {
			heights[i] = 16*heights[i] + []int{0, 15, r.Intn(16)}[r.Intn(3)]
		}
		checked += expectBounds(t, heights, randomDetector(r))
	}
	if checked < 1000 {
		t.Errorf("only %d times were checked", checked)
	}
}

// raised returns a list with n added to each element.
func raised(list []int, n int) []int {
	out := slices.Clone(list)
	for i := range out {
		out[i] += n
	}
	return out
}

// P3.14
func TestGreaterSamples(t *testing.T) {
	r := rand.New(rand.NewSource(3))
	for range 500 {
		p, d := randomPulse(r), randomDetector(r)
		up := r.Intn(api.MaxSample + 1 - slices.Max(append(p.Samples, 0)))
		q := api.Pulse{Time: p.Time, Scan: p.Scan, Samples: raised(p.Samples, up)}
		low, high := echoesOf(t, p.Samples, d), echoesOf(t, q.Samples, d)
		for i, e := range low {
			time, err := wave.Time(p.Samples, e)
			e.Level += up
			e.Top += up
			if len(high) != len(low) || high[i] != e {
				t.Fatalf("the echoes %v become %v, %d higher", low, high, up)
			}
			if again, err2 := wave.Time(q.Samples, high[i]); again != time || err2 != err {
				t.Errorf("the time %v becomes %v, %d higher", time, again, up)
			}
		}
		few, _ := wave.Returns(p, d)
		more, _ := wave.Returns(q, d)
		for i := range few {
			few[i].Top += up
		}
		if !slices.Equal(few, more) {
			t.Errorf("the returns %v become %v, %d higher", few, more, up)
		}
	}
}

// P3.14
func TestSamplesInFront(t *testing.T) {
	r := rand.New(rand.NewSource(4))
	cut := 0
	for range 500 {
		samples, d := append([]int{r.Intn(10)}, randomSamples(r, 200)...), randomDetector(r)
		n := 1 + r.Intn(api.MaxSamples-len(samples))
		base, _ := wave.Base(samples)
		later := append(constant(n, base), samples...)
		before, after := echoesOf(t, samples, d), echoesOf(t, later, d)
		if len(before) != len(after) {
			t.Fatalf("the echoes %v become %v, %d later", before, after, n)
		}
		for i, e := range before {
			time, err := wave.Time(samples, e)
			moved, movedErr := wave.Time(later, after[i])
			if err == api.OK && moved != (api.Span{Lo: time.Lo + 256*n, Hi: time.Hi + 256*n}) || movedErr != api.OK && (err == api.OK || e.From == 0) {
				t.Errorf("the time %v of %v becomes %v, error %d, %d later", time, e, moved, movedErr, n)
			}
			if err == api.ErrCut && e.From == 0 {
				cut++
			}
			e.From, e.To, e.Peak = e.From+n, e.To+n, e.Peak+n
			if after[i] != e {
				t.Errorf("the echo %v becomes %v, %d later", e, after[i], n)
			}
		}
	}
	if cut == 0 {
		t.Error("no echo was cut off")
	}
}

// P3.2, P3.5, P3.9, R4: arguments stay as they are, and what lies behind their ends is not read.
func TestArgumentsStay(t *testing.T) {
	behind := []int{-1, 2000, -1 << 63, 1<<63 - 1}
	r := rand.New(rand.NewSource(5))
	for range 200 {
		p, d := randomPulse(r), randomDetector(r)
		whole := append(slices.Clone(p.Samples), behind...)
		before := slices.Clone(whole)
		q := p
		q.Samples = whole[:len(p.Samples)]
		if !wave.Valid(q) {
			t.Fatalf("%v is not valid", q)
		}
		b, _ := wave.Encode(p)
		again, _ := wave.Encode(q)
		returns, _ := wave.Returns(p, d)
		same, _ := wave.Returns(q, d)
		if !bytes.Equal(b, again) || !slices.Equal(returns, same) || !slices.Equal(echoesOf(t, p.Samples, d), echoesOf(t, q.Samples, d)) {
			t.Errorf("what lies behind the end of %v is read", p.Samples)
		}
		for _, e := range echoesOf(t, q.Samples, d) {
			wave.Time(q.Samples, e)
			wave.Energy(q.Samples, e)
		}
		wave.Base(q.Samples)
		wave.Runs(q.Samples, 3)
		wave.Digitize(q.Samples)
		wave.Differences(q.Samples)
		if !slices.Equal(whole, before) {
			t.Errorf("the samples %v have become %v", before, whole)
		}
		bytesBefore := bytes.Clone(b)
		wave.Decode(b)
		if !bytes.Equal(b, bytesBefore) {
			t.Errorf("the bytes %x have become %x", bytesBefore, b)
		}
	}
}

// R4: a change of a result changes neither the argument nor another result.
func TestResultsAreNew(t *testing.T) {
	p := pulse(1, 1, 9, 20, 9, 1, 1)
	b, _ := wave.Encode(p)
	steps := wave.Differences(p.Samples)
	stepsBefore := slices.Clone(steps)
	decoded, _ := wave.Decode(b)
	rebuilt, _ := wave.Rebuild(steps)
	heights := constant(3, 100)
	digitized, _ := wave.Digitize(heights)
	other, _ := wave.Encode(p)
	clear(decoded.Samples)
	clear(rebuilt)
	clear(digitized)
	clear(other)
	if again, err := wave.Decode(b); err != api.OK || !samePulse(again, p) {
		t.Errorf("Decode of %x = %v, error %d", b, again, err)
	}
	if !slices.Equal(steps, stepsBefore) || !slices.Equal(heights, constant(3, 100)) {
		t.Errorf("the arguments have become %v and %v", steps, heights)
	}
	clear(steps)
	if !slices.Equal(p.Samples, []int{1, 1, 9, 20, 9, 1, 1}) || !slices.Equal(wave.Differences(p.Samples), stepsBefore) {
		t.Errorf("the samples have become %v", p.Samples)
	}
}

// P3.11
func TestDecodedPulsesAreValid(t *testing.T) {
	r := rand.New(rand.NewSource(6))
	found := 0
	for range 3000 {
		b, _ := wave.Encode(pulse(randomSamples(r, 6)...))
		b[r.Intn(len(b))] ^= 1 << r.Intn(8)
		p, err := wave.Decode(b)
		if err != api.OK {
			continue
		}
		found++
		if again, err := wave.Encode(p); !wave.Valid(p) || err != api.OK || !bytes.Equal(again, b) {
			t.Errorf("%x is read as %v", b, p)
		}
	}
	if found == 0 {
		t.Error("no changed bytes were read")
	}
}

package wave_test

import (
	"math/big"
	"math/rand"
	"slices"
	"testing"

	"lidar/api"
	"lidar/wave"
)

// crossing returns the indexes j and i between which the signal crossed the level of an echo.
func crossing(samples []int, e api.Echo) (j, i int) {
	for i = e.From; samples[i] < e.Level; i++ {
	}
	return i - 1, i
}

// moment returns parts * (j + part / whole).
func moment(j, part, whole int) *big.Rat {
	at := new(big.Rat).Add(ratio(j, 1), ratio(part, whole))
	return at.Mul(at, ratio(256, 1))
}

// plainTime returns what P3.6 says, for samples that are valid.
func plainTime(samples []int, e api.Echo) (api.Span, api.Errno) {
	n := len(samples)
	if e.From < 0 || e.From >= n || e.To <= e.From || e.To > n || slices.Max(samples[e.From:e.To]) < e.Level {
		return api.Span{}, api.ErrArg
	}
	j, i := crossing(samples, e)
	if i == 0 || samples[j] >= e.Level {
		return api.Span{}, api.ErrCut
	}
	s, t := samples[j], samples[i]
	lo, hi := floor(moment(j, e.Level-s-1, t-s)), ceil(moment(j, e.Level-s, t-s))
	return api.Span{Lo: int(lo.Int64()), Hi: int(hi.Int64())}, api.OK
}

func expectTime(t *testing.T, samples []int, e api.Echo) {
	t.Helper()
	want, wantErr := plainTime(samples, e)
	if got, err := wave.Time(samples, e); got != want || err != wantErr {
		t.Errorf("Time of %v in %v = %v, error %d, want %v, error %d", e, samples, got, err, want, wantErr)
	}
}

// P3.6: examples
func TestTimeExamples(t *testing.T) {
	hill := []int{1, 1, 9, 20, 9, 1, 1}
	for _, c := range []struct {
		samples []int
		e       api.Echo
		want    api.Span
		err     api.Errno
	}{
		{hill, api.Echo{From: 2, To: 5, Peak: 3, Level: 6, Top: 20}, api.Span{Lo: 384, Hi: 416}, api.OK},
		{hill, api.Echo{From: 2, To: 5, Level: 6}, api.Span{Lo: 384, Hi: 416}, api.OK},
		{hill, api.Echo{From: 2, To: 5, Peak: -1 << 63, Level: 20, Top: 1<<63 - 1}, api.Span{Lo: 744, Hi: 768}, api.OK},
		{hill, api.Echo{From: 0, To: 7, Level: 2}, api.Span{Lo: 256, Hi: 288}, api.OK},
		{hill, api.Echo{From: 2, To: 5, Level: 21}, api.Span{}, api.ErrArg},
		{hill, api.Echo{From: 2, To: 3, Level: 10}, api.Span{}, api.ErrArg},
		{hill, api.Echo{From: 3, To: 5, Level: 9}, api.Span{}, api.ErrCut},
		{hill, api.Echo{From: 3, To: 5, Level: 10}, api.Span{Lo: 512, Hi: 536}, api.OK},
		{hill, api.Echo{From: 4, To: 5, Level: 6}, api.Span{}, api.ErrCut},
		{hill, api.Echo{From: 0, To: 1, Level: 1}, api.Span{}, api.ErrCut},
		{with(constant(256, 0), 255, 1023), api.Echo{From: 255, To: 256, Level: 1023}, api.Span{Lo: 254*256 + 255, Hi: 255 * 256}, api.OK},
		{with(constant(256, 0), 255, 1023), api.Echo{From: 255, To: 256, Level: 1}, api.Span{Lo: 254 * 256, Hi: 254*256 + 1}, api.OK},
		{[]int{0, 1023}, api.Echo{From: 1, To: 2, Level: 8}, api.Span{Lo: 1, Hi: 3}, api.OK},
		{[]int{0, 1}, api.Echo{From: 0, To: 2, Level: 1}, api.Span{Lo: 0, Hi: 256}, api.OK},
	} {
		if got, err := wave.Time(c.samples, c.e); got != c.want || err != c.err {
			t.Errorf("Time of %v in %v = %v, error %d, want %v, error %d", c.e, c.samples, got, err, c.want, c.err)
		}
	}
}

// P3.6: all parts of all short lists, with all levels, and with indexes that are out of range.
func TestTime(t *testing.T) {
	allLists(4, 3, func(samples []int) {
		for from := -1; from <= len(samples)+1; from++ {
			for to := -1; to <= len(samples)+1; to++ {
				for level := -1; level <= 4; level++ {
					expectTime(t, samples, api.Echo{From: from, To: to, Level: level})
				}
			}
		}
	})
	r := rand.New(rand.NewSource(1))
	for range 1000 {
		samples := randomSamples(r, api.MaxSamples)
		for range 10 {
			expectTime(t, samples, api.Echo{From: r.Intn(len(samples) + 1), To: r.Intn(len(samples) + 2), Level: r.Intn(1 + slices.Max(append(samples, 5)))})
		}
		for _, e := range echoesOf(t, samples, randomDetector(r)) {
			expectTime(t, samples, e)
		}
	}
}

// P3.6, P3.8, R1: indexes and levels beyond all limits.
func TestExtremeEchoes(t *testing.T) {
	samples := []int{1, 1, 9, 20, 9, 1, 1}
	for _, n := range extremes {
		for _, e := range []api.Echo{{From: n, To: 5, Level: 6}, {From: 2, To: n, Level: 6}, {From: n, To: n, Level: 6}, {From: n, To: n + 1, Level: 6}} {
			expectTime(t, samples, e)
			if got, err := wave.Energy(samples, e); err != api.ErrArg || got != 0 {
				t.Errorf("Energy of %v = %d, error %d", e, got, err)
			}
		}
		expectTime(t, samples, api.Echo{From: 0, To: 7, Level: n})
		expectTime(t, samples, api.Echo{From: 2, To: 5, Level: n})
	}
}

// P3.6, P3.8
func TestTimeAndEnergyOfNoSamples(t *testing.T) {
	for _, samples := range append(noSamples(), nil, []int{}) {
		for _, e := range []api.Echo{{}, {To: 1}, {To: len(samples), Level: 1}, {From: 2, To: 3}} {
			if got, err := wave.Time(samples, e); err != api.ErrArg || got != (api.Span{}) {
				t.Errorf("Time of %v in %v = %v, error %d", e, samples, got, err)
			}
			if got, err := wave.Energy(samples, e); err != api.ErrArg || got != 0 {
				t.Errorf("Energy of %v in %v = %d, error %d", e, samples, got, err)
			}
		}
	}
}

// plainRange returns what P3.7 says, for a detector that is valid.
func plainRange(t api.Span, d api.Detector) (api.Span, api.Errno) {
	const most = 1 << 60
	if t.Lo < -most || t.Lo > t.Hi || t.Hi > most {
		return api.Span{}, api.ErrArg
	}
	at := func(x int) *big.Rat {
		r := new(big.Rat).Mul(ratio(x, 256), ratio(d.Step, 1))
		return r.Add(r, ratio(d.Delay, 1))
	}
	lo, hi := floor(at(t.Lo)), ceil(at(t.Hi))
	if lo.Sign() < 0 || hi.Cmp(big.NewInt(1<<22)) > 0 {
		return api.Span{}, api.ErrBeyond
	}
	return api.Span{Lo: int(lo.Int64()), Hi: int(hi.Int64())}, api.OK
}

func expectRange(t *testing.T, x api.Span, d api.Detector) {
	t.Helper()
	want, wantErr := plainRange(x, d)
	if got, err := wave.Range(x, d); got != want || err != wantErr {
		t.Errorf("Range of %v with %v = %v, error %d, want %v, error %d", x, d, got, err, want, wantErr)
	}
}

// P3.7: examples, and ranges around both limits.
func TestRange(t *testing.T) {
	if got, err := wave.Range(api.Span{Lo: 384, Hi: 416}, detector); err != api.OK || got != (api.Span{Lo: 1225, Hi: 1244}) {
		t.Errorf("Range of the example = %v, error %d", got, err)
	}
	ends := append([]int{-1 << 60, -1<<60 - 1, 1 << 60, 1<<60 + 1, 1 << 53, -1 << 53, 1 << 47, -1 << 47}, extremes...)
	steps, delays := []int{1, 2, 3, 150, 255, 256, 257, 9999, 10000}, []int{-1 << 20, -1, 0, 1, 1000, 1 << 20}
	for _, step := range steps {
		for _, delay := range delays {
			d := api.Detector{Level: 1, Drop: 1, Step: step, Delay: delay}
			lowest, highest := -256*delay/step, 256*(1<<22-delay)/step
			var list []int
			for n := -300; n <= 300; n += 15 {
				list = append(list, lowest+n, highest+n)
			}
			for n := -3; n <= 3; n++ {
				list = append(list, n, lowest+n, highest+n)
			}
			for i, x := range append(list, ends...) {
				expectRange(t, api.Span{Lo: x, Hi: x}, d)
				expectRange(t, api.Span{Lo: lowest + 1, Hi: x}, d)
				expectRange(t, api.Span{Lo: x, Hi: highest - 1}, d)
				expectRange(t, api.Span{Lo: x, Hi: ends[i%len(ends)]}, d)
			}
		}
	}
	r := rand.New(rand.NewSource(2))
	for range 5000 {
		lo := r.Intn(256 * api.MaxSamples)
		expectRange(t, api.Span{Lo: lo, Hi: lo + r.Intn(257)}, randomDetector(r))
	}
}

// P3.7
func TestRangeErrors(t *testing.T) {
	for _, x := range []api.Span{{}, {Lo: 384, Hi: 416}, {Lo: 2, Hi: 1}, {Lo: -1 << 63, Hi: 1<<63 - 1}} {
		for _, d := range badDetectors() {
			if got, err := wave.Range(x, d); err != api.ErrDetector || got != (api.Span{}) {
				t.Errorf("Range of %v with %v = %v, error %d", x, d, got, err)
			}
		}
	}
}

// P3.8: examples, and all parts of short lists.
func TestEnergy(t *testing.T) {
	if got, err := wave.Energy([]int{1, 1, 9, 20, 9, 1, 1}, api.Echo{From: 2, To: 5, Level: -7}); err != api.OK || got != 35 {
		t.Errorf("Energy of the example = %d, error %d", got, err)
	}
	if got, err := wave.Energy(append(constant(129, 1023), constant(127, 0)...), api.Echo{From: 129, To: 256}); err != api.OK || got != -127*1023 {
		t.Errorf("Energy of what lies below the base = %d, error %d", got, err)
	}
	allLists(5, 3, func(samples []int) {
		for from := -1; from <= len(samples)+1; from++ {
			for to := -1; to <= len(samples)+1; to++ {
				want, wantErr := 0, api.ErrArg
				if 0 <= from && from < to && to <= len(samples) {
					wantErr = api.OK
					for _, s := range samples[from:to] {
						want += s
					}
					want -= (to - from) * plainBase(samples)
				}
				if got, err := wave.Energy(samples, api.Echo{From: from, To: to}); got != want || err != wantErr {
					t.Errorf("Energy from %d to %d in %v = %d, error %d, want %d, error %d", from, to, samples, got, err, want, wantErr)
				}
			}
		}
	})
}

// plainReturns returns the returns of a valid pulse.
func plainReturns(t *testing.T, p api.Pulse, d api.Detector) []api.Return {
	var returns []api.Return
	for _, e := range allPlainEchoes(p.Samples, d) {
		at, err := plainTime(p.Samples, e)
		if err != api.OK {
			continue
		}
		if r, err := plainRange(at, d); err == api.OK {
			energy := 0
			for _, s := range p.Samples[e.From:e.To] {
				energy += s - plainBase(p.Samples)
			}
			returns = append(returns, api.Return{Num: len(returns) + 1, Range: r, Top: e.Top, Energy: energy})
		}
	}
	for i := range returns {
		returns[i].Of = len(returns)
	}
	return returns
}

// P3.9: echoes that are cut off or out of range have no return and no number.
func TestReturnsExamples(t *testing.T) {
	samples := []int{9, 1, 1, 9, 20, 9, 1, 1, 1, 1, 30, 1}
	for _, c := range []struct {
		delay int
		want  []api.Return
	}{
		{1000, []api.Return{{Num: 1, Of: 2, Range: api.Span{Lo: 1375, Hi: 1394}, Top: 20, Energy: 35}, {Num: 2, Of: 2, Range: api.Span{Lo: 2370, Hi: 2377}, Top: 30, Energy: 29}}},
		{-375, []api.Return{{Num: 1, Of: 2, Range: api.Span{Lo: 0, Hi: 19}, Top: 20, Energy: 35}, {Num: 2, Of: 2, Range: api.Span{Lo: 995, Hi: 1002}, Top: 30, Energy: 29}}},
		{-376, []api.Return{{Num: 1, Of: 1, Range: api.Span{Lo: 994, Hi: 1001}, Top: 30, Energy: 29}}},
		{-1371, nil},
	} {
		d := detector
		d.Delay = c.delay
		if got, err := wave.Returns(pulse(samples...), d); err != api.OK || !slices.Equal(got, c.want) {
			t.Errorf("Returns with delay %d = %v, error %d, want %v", c.delay, got, err, c.want)
		}
	}
	// The last step of the longest pulse is within the range, whatever the detector is.
	last := pulse(with(constant(256, 0), 255, 1023)...)
	d := api.Detector{Level: 1023, Drop: 1, Step: 10000, Delay: api.MaxDelay}
	want := []api.Return{{Num: 1, Of: 1, Range: api.Span{Lo: 1<<20 + 2549960, Hi: 1<<20 + 2550000}, Top: 1023, Energy: 1023}}
	if got, err := wave.Returns(last, d); err != api.OK || !slices.Equal(got, want) {
		t.Errorf("Returns of the last step = %v, error %d, want %v", got, err, want)
	}
}

// P3.9
func TestReturns(t *testing.T) {
	expect := func(p api.Pulse, d api.Detector) {
		if got, err := wave.Returns(p, d); err != api.OK || !slices.Equal(got, plainReturns(t, p, d)) {
			t.Errorf("Returns of %v with %v = %v, error %d, want %v", p, d, got, err, plainReturns(t, p, d))
		}
	}
	for _, p := range goodPulses() {
		expect(p, detector)
	}
	r := rand.New(rand.NewSource(3))
	for range 500 {
		p, d := randomPulse(r), randomDetector(r)
		expect(p, d)
		// A range of 0 lies within the samples, so that some echoes are out of range.
		d.Delay = max(-api.MaxDelay, -d.Step*r.Intn(40))
		expect(p, d)
	}
}

// P3.9
func TestReturnsErrors(t *testing.T) {
	for _, p := range badPulses() {
		for _, d := range append(badDetectors(), detector) {
			if got, err := wave.Returns(p, d); err != api.ErrPulse || len(got) != 0 {
				t.Errorf("Returns of %v with %v = %v, error %d", p, d, got, err)
			}
		}
	}
	for _, p := range goodPulses() {
		for _, d := range badDetectors() {
			if got, err := wave.Returns(p, d); err != api.ErrDetector || len(got) != 0 {
				t.Errorf("Returns of %v with %v = %v, error %d", p, d, got, err)
			}
		}
	}
}

// P3.10
func TestSum(t *testing.T) {
	for _, c := range []struct {
		returns []api.Return
		want    api.Tally
	}{
		{nil, api.Tally{}},
		{[]api.Return{}, api.Tally{}},
		{[]api.Return{{Num: 1, Of: 1, Energy: -5}}, api.Tally{Count: 1, First: 1, Last: 1, Energy: -5}},
		{[]api.Return{{Num: 1, Of: 3, Energy: 5}, {Num: 2, Of: 3, Energy: 6}, {Num: 3, Of: 3, Energy: 8}}, api.Tally{Count: 3, First: 1, Last: 1, Energy: 19}},
		{[]api.Return{{Num: 2, Of: 2}, {Num: 2, Of: 2, Energy: 1 << 61}, {Num: 1, Of: 2, Energy: 1 << 61}, {Num: 3, Of: 1}, {Num: 0, Of: 0}, {Num: -1, Of: 1}, {Num: 1, Of: 1, Energy: -1 << 62}}, api.Tally{Count: 7, First: 2, Last: 4}},
	} {
		if got := wave.Sum(c.returns); got != c.want {
			t.Errorf("Sum of %v = %v, want %v", c.returns, got, c.want)
		}
	}
}

// P3.7, R5: times that fit into a span, but whose products with Step do not fit into one, or into 64 bits.
func TestRangeOfGreatTimes(t *testing.T) {
	d := api.Detector{Level: 1, Drop: 1, Step: 10000}
	// 2^64 / 10000 and 2^62 / 10000: products around them wrap to small numbers.
	for _, x := range []int{1 << 60, 1<<60 - 1<<20, 1844674407370956, 1844674407370955, 461168601842739, 461168601842738, 115292150460685} {
		for _, at := range []api.Span{{Lo: 0, Hi: x}, {Lo: x, Hi: x}, {Lo: -x, Hi: -x}, {Lo: -x, Hi: 0}, {Lo: -x, Hi: x}} {
			if got, err := wave.Range(at, d); err != api.ErrBeyond || got != (api.Span{}) {
				t.Errorf("Range of %v = %v, error %d", at, got, err)
			}
		}
	}
}

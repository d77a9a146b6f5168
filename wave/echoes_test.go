package wave_test

import (
	"math/rand"
	"slices"
	"testing"

	"lidar/api"
	"lidar/wave"
)

// plainBase returns the least sample that is not less than half of the samples, rounded up.
func plainBase(samples []int) int {
	for base := 0; ; base++ {
		notAbove := 0
		for _, s := range samples {
			if s <= base {
				notAbove++
			}
		}
		if 2*notAbove >= len(samples) {
			return base
		}
	}
}

// plainRuns tries all parts of the samples.
func plainRuns(samples []int, level int) [][2]int {
	high := func(i int) bool { return 0 <= i && i < len(samples) && samples[i] >= level }
	var runs [][2]int
	for a := range samples {
		for b := a + 1; b <= len(samples); b++ {
			if !high(a-1) && !high(b) && slices.Min(samples[a:b]) >= level {
				runs = append(runs, [2]int{a, b})
			}
		}
	}
	return runs
}

// plainEchoes returns the echoes of samples[from:to], of which the first one has this level; its greatest sample so far is at first. Instead of states it looks for the first sample that is drop below the greatest one, and then for the first one that is drop above the least one.
func plainEchoes(samples []int, from, first, to, level, drop int) []api.Echo {
	up := func(end int) api.Echo {
		top := slices.Max(samples[first:end])
		return api.Echo{From: from, To: end, Peak: first + slices.Index(samples[first:end], top), Level: level, Top: top}
	}
	fall := first + 1
	for fall < to && slices.Max(samples[first:fall])-samples[fall] < drop {
		fall++
	}
	for i := fall + 1; i < to; i++ {
		least := slices.Min(samples[fall:i])
		if samples[i]-least >= drop {
			valley := fall + slices.Index(samples[fall:i], least)
			return append([]api.Echo{up(valley)}, plainEchoes(samples, valley, i, to, least+drop, drop)...)
		}
	}
	return []api.Echo{up(to)}
}

func allPlainEchoes(samples []int, d api.Detector) []api.Echo {
	if len(samples) == 0 {
		return nil
	}
	level := plainBase(samples) + d.Level
	var echoes []api.Echo
	for _, run := range plainRuns(samples, level) {
		echoes = append(echoes, plainEchoes(samples, run[0], run[0], run[1], level, d.Drop)...)
	}
	return echoes[:min(len(echoes), 15)]
}

// P3.4
func TestBase(t *testing.T) {
	for _, c := range []struct {
		samples []int
		want    int
	}{{[]int{4}, 4}, {[]int{4, 2}, 2}, {[]int{9, 0, 5}, 5}, {[]int{1023, 0, 7, 1023}, 7}, {constant(256, 1023), 1023}, {append(constant(128, 9), constant(128, 3)...), 3}, {append(constant(129, 9), constant(127, 3)...), 9}, {[]int{1, 1, 9, 20, 9, 1, 1}, 1}} {
		if got, err := wave.Base(c.samples); err != api.OK || got != c.want {
			t.Errorf("Base of %v = %d, error %d, want %d", c.samples, got, err, c.want)
		}
	}
	expect := func(samples []int) {
		if got, err := wave.Base(samples); len(samples) > 0 && (err != api.OK || got != plainBase(samples)) {
			t.Errorf("Base of %v = %d, error %d, want %d", samples, got, err, plainBase(samples))
		}
	}
	allLists(6, 3, expect)
	r := rand.New(rand.NewSource(1))
	for range 500 {
		expect(randomSamples(r, api.MaxSamples))
	}
}

func expectRuns(t *testing.T, samples []int, level int) {
	t.Helper()
	if got, err := wave.Runs(samples, level); err != api.OK || !slices.Equal(got, plainRuns(samples, level)) {
		t.Errorf("Runs of %v with level %d = %v, error %d, want %v", samples, level, got, err, plainRuns(samples, level))
	}
}

// P3.4
func TestRuns(t *testing.T) {
	for _, c := range []struct {
		samples []int
		level   int
		want    [][2]int
	}{{nil, 0, nil}, {[]int{}, -1, nil}, {[]int{5}, 5, [][2]int{{0, 1}}}, {[]int{5}, 6, nil}, {[]int{5, 0, 5, 5, 0, 6}, 5, [][2]int{{0, 1}, {2, 4}, {5, 6}}}, {[]int{0, 1, 2}, -1 << 63, [][2]int{{0, 3}}}, {[]int{0, 1023}, 1<<63 - 1, nil}} {
		if got, err := wave.Runs(c.samples, c.level); err != api.OK || !slices.Equal(got, c.want) {
			t.Errorf("Runs of %v with level %d = %v, error %d, want %v", c.samples, c.level, got, err, c.want)
		}
	}
	allLists(6, 3, func(samples []int) {
		for level := -1; level <= 4; level++ {
			expectRuns(t, samples, level)
		}
	})
	r := rand.New(rand.NewSource(2))
	for range 300 {
		samples := randomSamples(r, 60)
		for range 10 {
			expectRuns(t, samples, r.Intn(2+slices.Max(append(samples, 0))))
		}
	}
}

// P3.4, P3.5: lists that are not samples.
func TestNoSamples(t *testing.T) {
	for _, samples := range noSamples() {
		if base, err := wave.Base(samples); err != api.ErrArg || base != 0 {
			t.Errorf("Base of %v = %d, error %d", samples, base, err)
		}
		if runs, err := wave.Runs(samples, 1); err != api.ErrArg || len(runs) != 0 {
			t.Errorf("Runs of %v = %v, error %d", samples, runs, err)
		}
		if echoes, err := wave.Echoes(samples, detector); err != api.ErrArg || len(echoes) != 0 {
			t.Errorf("Echoes of %v = %v, error %d", samples, echoes, err)
		}
		for _, d := range badDetectors() {
			if echoes, err := wave.Echoes(samples, d); err != api.ErrDetector || len(echoes) != 0 {
				t.Errorf("Echoes of %v with %v = %v, error %d", samples, d, echoes, err)
			}
		}
	}
	if base, err := wave.Base(nil); err != api.ErrArg || base != 0 {
		t.Errorf("Base of nothing = %d, error %d", base, err)
	}
	if base, err := wave.Base([]int{}); err != api.ErrArg || base != 0 {
		t.Errorf("Base of an empty list = %d, error %d", base, err)
	}
}

// P3.5
func TestEchoesErrors(t *testing.T) {
	for _, samples := range [][]int{nil, {}, {1}, {1, 1, 9, 20, 9, 1, 1}} {
		for _, d := range badDetectors() {
			if echoes, err := wave.Echoes(samples, d); err != api.ErrDetector || len(echoes) != 0 {
				t.Errorf("Echoes of %v with %v = %v, error %d", samples, d, echoes, err)
			}
		}
	}
	for _, samples := range [][]int{nil, {}} {
		if echoes, err := wave.Echoes(samples, detector); err != api.OK || len(echoes) != 0 {
			t.Errorf("Echoes of nothing = %v, error %d", echoes, err)
		}
	}
}

// P3.5: examples, and each comparison of both states where it is just true and just false.
func TestEchoExamples(t *testing.T) {
	for _, c := range []struct {
		samples     []int
		level, drop int
		want        []api.Echo
	}{
		{[]int{1, 1, 9, 20, 9, 1, 1}, 5, 4, []api.Echo{{From: 2, To: 5, Peak: 3, Level: 6, Top: 20}}},
		{[]int{0, 0, 0, 0, 10, 4, 12, 0, 0, 0}, 3, 5, []api.Echo{{From: 4, To: 5, Peak: 4, Level: 3, Top: 10}, {From: 5, To: 7, Peak: 6, Level: 9, Top: 12}}},
		{[]int{9, 1, 1, 1}, 5, 4, []api.Echo{{From: 0, To: 1, Peak: 0, Level: 6, Top: 9}}},
		{[]int{1, 1, 1, 6}, 5, 4, []api.Echo{{From: 3, To: 4, Peak: 3, Level: 6, Top: 6}}},
		{[]int{1, 1, 1, 5}, 5, 4, nil},
		{constant(256, 1023), 1, 1, nil},
		{[]int{0, 0, 0, 0, 0, 7, 7, 5, 7, 7, 0}, 1, 2, []api.Echo{{From: 5, To: 7, Peak: 5, Level: 1, Top: 7}, {From: 7, To: 10, Peak: 8, Level: 7, Top: 7}}},
		{[]int{0, 0, 0, 0, 0, 7, 7, 5, 7, 7, 0}, 1, 3, []api.Echo{{From: 5, To: 10, Peak: 5, Level: 1, Top: 7}}},
		{[]int{9, 7, 5, 6, 5, 8, 9, 0, 0, 0, 0, 0, 0, 0}, 1, 3, []api.Echo{{From: 0, To: 2, Peak: 0, Level: 1, Top: 9}, {From: 2, To: 7, Peak: 6, Level: 8, Top: 9}}},
		{[]int{9, 6, 8, 7, 8, 9, 0, 0, 0, 0, 0, 0, 0}, 1, 3, []api.Echo{{From: 0, To: 1, Peak: 0, Level: 1, Top: 9}, {From: 1, To: 6, Peak: 5, Level: 9, Top: 9}}},
		{[]int{9, 6, 4, 3, 4, 6, 9, 0, 0, 0, 0, 0, 0, 0}, 1, 3, []api.Echo{{From: 0, To: 3, Peak: 0, Level: 1, Top: 9}, {From: 3, To: 7, Peak: 6, Level: 6, Top: 9}}},
	} {
		d := api.Detector{Level: c.level, Drop: c.drop, Step: 1}
		if got := echoesOf(t, c.samples, d); !slices.Equal(got, c.want) {
			t.Errorf("Echoes of %v with %v = %v, want %v", c.samples, d, got, c.want)
		}
	}
}

// P3.5: all short lists, and lists of many shapes.
func TestEchoes(t *testing.T) {
	expect := func(samples []int, d api.Detector) {
		if got, err := wave.Echoes(samples, d); err != api.OK || !slices.Equal(got, allPlainEchoes(samples, d)) {
			t.Fatalf("Echoes of %v with %v = %v, error %d, want %v", samples, d, got, err, allPlainEchoes(samples, d))
		}
	}
	allLists(7, 3, func(samples []int) {
		for level := 1; level <= 2; level++ {
			for drop := 1; drop <= 3; drop++ {
				// The samples in front keep the base at 0.
				expect(append(constant(len(samples), 0), samples...), api.Detector{Level: level, Drop: drop, Step: 1})
			}
		}
		expect(samples, api.Detector{Level: 1, Drop: 1, Step: 1})
	})
	r := rand.New(rand.NewSource(3))
	for range 1000 {
		expect(randomSamples(r, 100), randomDetector(r))
	}
}

// P3.5: only the first 15 echoes count, be they of many runs, of one, or of both.
func TestManyEchoes(t *testing.T) {
	d := api.Detector{Level: 5, Drop: 4, Step: 1}
	for n := 13; n <= 17; n++ {
		runs := slices.Repeat([]int{0, 9}, n)
		one := append(constant(40, 0), slices.Repeat([]int{5, 9}, n)...)
		both := append(slices.Clone(runs[:10]), one...)
		for _, c := range []struct {
			samples      []int
			number, last int // the Peak of the last one
		}{{runs, min(n, 15), 2*min(n, 15) - 1}, {one, min(n, 15), 39 + 2*min(n, 15)}, {both, 15, 10 + 39 + 2*10}} {
			got := echoesOf(t, c.samples, d)
			if !slices.Equal(got, allPlainEchoes(c.samples, d)) || len(got) != c.number || got[c.number-1].Peak != c.last {
				t.Errorf("Echoes of %v = %v", c.samples, got)
			}
		}
	}
}

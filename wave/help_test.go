package wave_test

import (
	"math/big"
	"math/rand"
	"slices"
	"testing"

	"lidar/api"
	"lidar/wave"
)

// extremes are integers that lie below or above every limit of this layer.
var extremes = []int{-1 << 63, -1<<63 + 1, -1 << 62, -1 << 61, -1 << 40, 1 << 51, 1 << 61, 1 << 62, 1<<63 - 2, 1<<63 - 1}

var (
	unturned = [4]int{1, 0, 0, 0}
	detector = api.Detector{Level: 5, Drop: 4, Step: 150, Delay: 1000}
)

func pulse(samples ...int) api.Pulse {
	return api.Pulse{Time: 7, Scan: unturned, Samples: samples}
}

func samePulse(p, q api.Pulse) bool {
	return p.Time == q.Time && p.Scan == q.Scan && slices.Equal(p.Samples, q.Samples)
}

func isNoPulse(p api.Pulse) bool {
	return p.Time == 0 && p.Scan == [4]int{} && p.Samples == nil
}

// constant returns n samples that are all equal.
func constant(n, sample int) []int {
	return slices.Repeat([]int{sample}, n)
}

// with returns a copy of a list with another element at the index i.
func with(list []int, i, n int) []int {
	out := slices.Clone(list)
	out[i] = n
	return out
}

// noSamples are lists that are not the samples of a pulse.
func noSamples() [][]int {
	lists := [][]int{{-1}, {1024}, constant(257, 5), constant(1000, 0), constant(300, 2000), with(constant(256, 1023), 255, 1024), with(constant(256, 0), 0, -1), with(constant(9, 3), 4, -1)}
	for _, n := range extremes {
		lists = append(lists, []int{n}, []int{1, n, 2}, []int{0, 1023, n})
	}
	return lists
}

// allLists calls use with all lists of at most longest elements from 0 to greatest.
func allLists(longest, greatest int, use func(list []int)) {
	var extend func(list []int)
	extend = func(list []int) {
		use(list)
		for n := 0; n <= greatest && len(list) < longest; n++ {
			extend(append(slices.Clone(list), n))
		}
	}
	extend(nil)
}

// randomSamples returns samples of different shapes: noise, hills, or walks up and down.
func randomSamples(r *rand.Rand, longest int) []int {
	samples := make([]int, r.Intn(longest+1))
	greatest := []int{1, 3, 10, 100, api.MaxSample}[r.Intn(5)]
	step := 1 + r.Intn(greatest)
	now := r.Intn(greatest + 1)
	for i := range samples {
		switch r.Intn(4) {
		case 0:
			now = r.Intn(greatest + 1)
		case 1:
			now = max(0, min(now-step+r.Intn(2*step+1), greatest))
		}
		samples[i] = now
	}
	return samples
}

func randomScan(r *rand.Rand) [4]int {
	return [4]int{r.Intn(2001) - 1000, r.Intn(3) - 1, r.Intn(201) - 100, 1 + r.Intn(1000)}
}

func randomPulse(r *rand.Rand) api.Pulse {
	return api.Pulse{Time: r.Intn(api.MaxTime+1) >> r.Intn(51), Scan: randomScan(r), Samples: randomSamples(r, api.MaxSamples)}
}

// randomDetector returns detectors, most of which find echoes in samples that are not great.
func randomDetector(r *rand.Rand) api.Detector {
	most := []int{2, 5, 50, api.MaxSample}[r.Intn(4)]
	return api.Detector{Level: 1 + r.Intn(most), Drop: 1 + r.Intn(most), Step: 1 + r.Intn(api.MaxStep), Delay: r.Intn(2*api.MaxDelay+1) - api.MaxDelay}
}

// badDetectors are detectors that are not valid, each for one reason.
func badDetectors() []api.Detector {
	d := detector
	list := []api.Detector{{}, {Level: 0, Drop: d.Drop, Step: d.Step}, {Level: 1024, Drop: d.Drop, Step: d.Step}, {Level: d.Level, Drop: 0, Step: d.Step}, {Level: d.Level, Drop: 1024, Step: d.Step}, {Level: d.Level, Drop: d.Drop, Step: 0}, {Level: d.Level, Drop: d.Drop, Step: 10001}, {Level: d.Level, Drop: d.Drop, Step: d.Step, Delay: 1<<20 + 1}, {Level: d.Level, Drop: d.Drop, Step: d.Step, Delay: -1<<20 - 1}}
	for _, n := range append([]int{-1}, extremes...) {
		list = append(list, api.Detector{Level: n, Drop: d.Drop, Step: d.Step}, api.Detector{Level: d.Level, Drop: n, Step: d.Step}, api.Detector{Level: d.Level, Drop: d.Drop, Step: n})
	}
	for _, n := range extremes {
		list = append(list, api.Detector{Level: d.Level, Drop: d.Drop, Step: d.Step, Delay: n})
	}
	return list
}

func echoesOf(t *testing.T, samples []int, d api.Detector) []api.Echo {
	t.Helper()
	echoes, err := wave.Echoes(samples, d)
	if err != api.OK {
		t.Fatalf("Echoes of %v with %v: error %d", samples, d, err)
	}
	return echoes
}

// ratio returns a / b without rounding.
func ratio(a, b int) *big.Rat {
	return big.NewRat(int64(a), int64(b))
}

func floor(x *big.Rat) *big.Int {
	return new(big.Int).Div(x.Num(), x.Denom()) // the denominator is positive
}

func ceil(x *big.Rat) *big.Int {
	return new(big.Int).Neg(floor(new(big.Rat).Neg(x)))
}

func contains(s api.Span, x *big.Rat) bool {
	return ratio(s.Lo, 1).Cmp(x) <= 0 && x.Cmp(ratio(s.Hi, 1)) <= 0
}

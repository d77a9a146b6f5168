package wave_test

import (
	"slices"
	"testing"

	"lidar/api"
	"lidar/wave"
)

// goodPulses are pulses at the limits.
func goodPulses() []api.Pulse {
	list := []api.Pulse{pulse(), pulse(0), pulse(1023), pulse(constant(256, 1023)...), pulse(constant(256, 0)...), {Scan: unturned, Samples: []int{}}, {Time: api.MaxTime, Scan: [4]int{1000, -1000, 1000, -1000}, Samples: with(constant(256, 0), 255, 1023)}}
	// As many steps as samples, and the longest encoding.
	list = append(list, pulse(slices.Repeat([]int{0, 1}, 128)...), api.Pulse{Time: api.MaxTime, Scan: [4]int{1000, -1000, 1000, -1000}, Samples: slices.Repeat([]int{1023, 0}, 128)})
	for i := range 4 {
		for _, n := range []int{-1000, -1, 1, 1000} {
			var scan [4]int
			scan[i] = n
			list = append(list, api.Pulse{Scan: scan})
		}
	}
	return list
}

// badPulses are pulses that are not valid, each for one reason.
func badPulses() []api.Pulse {
	list := []api.Pulse{{}, {Time: 1, Samples: []int{1}}, {Time: -1, Scan: unturned}, {Time: api.MaxTime + 1, Scan: unturned}}
	for _, n := range append([]int{-1001, 1001}, extremes...) {
		for i := range 4 {
			scan := [4]int{1, 1, 1, 1}
			scan[i] = n
			list = append(list, api.Pulse{Scan: scan})
		}
	}
	for _, n := range extremes {
		list = append(list, api.Pulse{Time: n, Scan: unturned})
	}
	for _, samples := range noSamples() {
		list = append(list, pulse(samples...))
	}
	return list
}

// P3.1
func TestValid(t *testing.T) {
	for _, p := range goodPulses() {
		if !wave.Valid(p) {
			t.Errorf("%v is not valid", p)
		}
	}
	for _, p := range badPulses() {
		if wave.Valid(p) {
			t.Errorf("%v is valid", p)
		}
	}
}

// P3.4
func TestValidDetector(t *testing.T) {
	for _, d := range []api.Detector{detector, {Level: 1, Drop: 1, Step: 1}, {Level: 1023, Drop: 1, Step: 1}, {Level: 1, Drop: 1023, Step: 1}, {Level: 1, Drop: 1, Step: 10000}, {Level: 1, Drop: 1, Step: 1, Delay: 1 << 20}, {Level: 1023, Drop: 1023, Step: 10000, Delay: -1 << 20}} {
		if !wave.ValidDetector(d) {
			t.Errorf("%v is not valid", d)
		}
	}
	for _, d := range badDetectors() {
		if wave.ValidDetector(d) {
			t.Errorf("%v is valid", d)
		}
	}
}

// P3.3: every height, alone and in the longest list.
func TestDigitize(t *testing.T) {
	const most = 16*api.MaxSample + 15
	var heights, samples []int
	for h := range most + 1 {
		got, err := wave.Digitize([]int{h})
		if err != api.OK || len(got) != 1 || 16*got[0] > h || h >= 16*got[0]+16 {
			t.Fatalf("Digitize of %d = %v, error %d", h, got, err)
		}
		if h%65 == 0 {
			heights, samples = append(heights, h), append(samples, got[0])
		}
	}
	heights, samples = heights[:api.MaxSamples-3], samples[:api.MaxSamples-3]
	heights, samples = append(heights, 0, most, 17), append(samples, 0, 1023, 1)
	if got, err := wave.Digitize(heights); err != api.OK || !slices.Equal(got, samples) {
		t.Errorf("Digitize of %v = %v, error %d", heights, got, err)
	}
	if got, err := wave.Digitize(nil); err != api.OK || len(got) != 0 {
		t.Errorf("Digitize of nothing = %v, error %d", got, err)
	}
}

// P3.3
func TestDigitizeErrors(t *testing.T) {
	lists := [][]int{constant(257, 0), constant(257, -1), constant(1000, 7), {16384}, {16*1024 + 1, 0}, with(constant(256, 5), 255, 16384)}
	for h := -40; h < 0; h++ {
		lists = append(lists, []int{h}, []int{0, h, 16})
	}
	for _, h := range extremes {
		lists = append(lists, []int{h}, []int{1, h})
	}
	for _, heights := range lists {
		if got, err := wave.Digitize(heights); err != api.ErrArg || len(got) != 0 {
			t.Errorf("Digitize of %v = %v, error %d", heights, got, err)
		}
	}
}

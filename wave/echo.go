package wave

import (
	"slices"

	"lidar/api"
)

// Base returns the lower median of the samples.
func Base(samples []int) (int, api.Errno) {
	if len(samples) == 0 || !validSamples(samples) {
		return 0, api.ErrArg
	}
	ascending := slices.Sorted(slices.Values(samples))
	return ascending[(len(ascending)-1)/2], api.OK
}

// Runs returns where the runs of samples that are at least level begin and end.
func Runs(samples []int, level int) ([][2]int, api.Errno) {
	if !validSamples(samples) {
		return nil, api.ErrArg
	}
	var runs [][2]int
	for i, s := range samples {
		switch {
		case s < level:
		case i > 0 && samples[i-1] >= level:
			runs[len(runs)-1][1] = i + 1
		default:
			runs = append(runs, [2]int{i, i + 1})
		}
	}
	return runs, api.OK
}

// Echoes returns the echoes of the samples, in the order of time.
func Echoes(samples []int, d api.Detector) ([]api.Echo, api.Errno) {
	if !ValidDetector(d) {
		return nil, api.ErrDetector
	}
	if len(samples) == 0 {
		return nil, api.OK
	}
	base, err := Base(samples)
	if err != api.OK {
		return nil, err
	}
	level := base + d.Level
	runs, _ := Runs(samples, level) // no error: Base has accepted the samples
	f := finder{samples: samples, drop: d.Drop}
	for _, run := range runs {
		f.goThrough(run, level)
	}
	return f.found[:min(len(f.found), api.MaxEchoes)], api.OK
}

// finder goes through the samples of runs and finds their echoes. Its state takes the index of each sample behind the first one of a run.
type finder struct {
	samples []int
	drop    int
	state   func(i int)
	echo    api.Echo // the one that has begun
	valley  int      // the index of the least sample since the signal began to fall
	found   []api.Echo
}

func (f *finder) goThrough(run [2]int, level int) {
	f.begin(run[0], run[0], level)
	for i := run[0] + 1; i < run[1]; i++ {
		f.state(i)
	}
	f.end(run[1])
}

func (f *finder) begin(from, peak, level int) {
	f.echo = api.Echo{From: from, Peak: peak, Level: level}
	f.state = f.rising
}

func (f *finder) end(to int) {
	f.echo.To = to
	f.echo.Top = f.samples[f.echo.Peak]
	f.found = append(f.found, f.echo)
}

func (f *finder) rising(i int) {
	top := f.samples[f.echo.Peak]
	switch s := f.samples[i]; {
	case s > top:
		f.echo.Peak = i
	case s <= top-f.drop:
		f.valley = i
		f.state = f.falling
	}
}

func (f *finder) falling(i int) {
	least := f.samples[f.valley]
	switch s := f.samples[i]; {
	case s < least:
		f.valley = i
	case s >= least+f.drop:
		f.end(f.valley)
		f.begin(f.valley, i, least+f.drop)
	}
}

package wave

import (
	"slices"

	"lidar/api"
	"lidar/exact"
)

// Time returns bounds on the time at which the signal crossed the level of an echo.
func Time(samples []int, e api.Echo) (api.Span, api.Errno) {
	if !validSamples(samples) || !isPart(samples, e) {
		return api.Span{}, api.ErrArg
	}
	i := slices.IndexFunc(samples[e.From:e.To], func(s int) bool { return s >= e.Level })
	if i < 0 {
		return api.Span{}, api.ErrArg
	}
	i += e.From
	j := i - 1
	if i == 0 || samples[j] >= e.Level {
		return api.Span{}, api.ErrCut
	}
	// Heights are rounded down to samples: the crossing is latest if those at j and i are the samples themselves, and earliest if both are nearly 1 greater.
	rise, above := samples[i]-samples[j], e.Level-samples[j]
	start := j * rise
	return exact.Over(api.Span{Lo: parts * (start + above - 1), Hi: parts * (start + above)}, rise)
}

// Range returns bounds on the range of what lies at the times of t.
func Range(t api.Span, d api.Detector) (api.Span, api.Errno) {
	if !ValidDetector(d) {
		return api.Span{}, api.ErrDetector
	}
	if !exact.Valid(t) {
		return api.Span{}, api.ErrArg
	}
	scaled, err := exact.Times(t, point(d.Step))
	if err != api.OK {
		// What is above MaxNum here is far above MaxRange also when it is divided by parts and moved by Delay.
		return api.Span{}, api.ErrBeyond
	}
	// Of a product within MaxNum, neither the quotient nor its sum with Delay has an error.
	behind, _ := exact.Over(scaled, parts)
	r, _ := exact.Plus(behind, point(d.Delay))
	if r.Lo < 0 || r.Hi > api.MaxRange {
		return api.Span{}, api.ErrBeyond
	}
	return r, api.OK
}

// Energy returns the sum of the samples of an echo above the base.
func Energy(samples []int, e api.Echo) (int, api.Errno) {
	base, err := Base(samples)
	if err != api.OK {
		return 0, err
	}
	if !isPart(samples, e) {
		return 0, api.ErrArg
	}
	energy := 0
	for _, s := range samples[e.From:e.To] {
		energy += s - base
	}
	return energy, api.OK
}

// Returns returns the returns of a pulse.
func Returns(p api.Pulse, d api.Detector) ([]api.Return, api.Errno) {
	if !Valid(p) {
		return nil, api.ErrPulse
	}
	echoes, err := Echoes(p.Samples, d)
	if err != api.OK {
		return nil, err
	}
	var returns []api.Return
	for _, e := range echoes {
		if r, ok := ranged(p.Samples, e, d); ok {
			returns = append(returns, r)
		}
	}
	for i := range returns {
		returns[i].Num, returns[i].Of = i+1, len(returns)
	}
	return returns, api.OK
}

// ranged returns the return of an echo, without its number, if it has a range.
func ranged(samples []int, e api.Echo, d api.Detector) (api.Return, bool) {
	t, err := Time(samples, e)
	if err != api.OK {
		return api.Return{}, false
	}
	r, err := Range(t, d)
	if err != api.OK {
		return api.Return{}, false
	}
	energy, _ := Energy(samples, e) // no error: Time has accepted the samples and the echo
	return api.Return{Range: r, Top: e.Top, Energy: energy}, true
}

// Sum sums returns up.
func Sum(returns []api.Return) api.Tally {
	sum := api.Tally{Count: len(returns)}
	for _, r := range returns {
		sum.Energy += r.Energy
		if r.Num == 1 {
			sum.First++
		}
		if r.Num == r.Of {
			sum.Last++
		}
	}
	return sum
}

// isPart reports whether an echo begins and ends within the samples and is not empty.
func isPart(samples []int, e api.Echo) bool {
	return 0 <= e.From && e.From < e.To && e.To <= len(samples)
}

func point(n int) api.Span {
	return api.Span{Lo: n, Hi: n}
}

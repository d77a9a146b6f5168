package track

import (
	"cmp"
	"slices"

	"lidar/api"
	"lidar/exact"
)

// Clocks returns the clocks that syncs form.
func Clocks(syncs []api.Sync) ([]api.Clock, api.Errno) {
	for _, s := range syncs {
		if !ValidSync(s) {
			return nil, api.ErrSync
		}
	}
	ordered := slices.Clone(syncs)
	slices.SortStableFunc(ordered, func(s, t api.Sync) int { return cmp.Compare(s.Scan, t.Scan) })
	var clocks []api.Clock
	for _, s := range ordered {
		clocks = withSync(clocks, s)
	}
	return clocks, api.OK
}

// withSync narrows the last clock to what a sync says, or begins another one.
func withSync(clocks []api.Clock, s api.Sync) []api.Clock {
	offset := around(point(s.Nav-s.Scan), s.Err)
	if last := len(clocks) - 1; last >= 0 {
		// No error: the offsets of valid syncs are valid spans.
		if both, ok, _ := exact.Meet(clocks[last].Offset, offset); ok {
			clocks[last].Offset = both
			return clocks
		}
	}
	return append(clocks, api.Clock{From: s.Scan, Offset: offset})
}

// NavTime returns bounds on the navigation time at a time of the scanner.
func NavTime(clocks []api.Clock, scan int) (api.Span, api.Errno) {
	if !validClocks(clocks) {
		return api.Span{}, api.ErrClock
	}
	if !within(0, api.MaxTime, scan) {
		return api.Span{}, api.ErrArg
	}
	clock := clocks[0]
	for _, c := range clocks {
		if c.From <= scan {
			clock = c
		}
	}
	time, err := exact.Plus(point(scan), clock.Offset)
	if err != api.OK || !isPart(time, 0, api.MaxTime) {
		return api.Span{}, api.ErrRange
	}
	return time, api.OK
}

func validClocks(clocks []api.Clock) bool {
	from := 0
	for _, c := range clocks {
		if c.From < from || !exact.Valid(c.Offset) {
			return false
		}
		from = c.From
	}
	return len(clocks) > 0
}

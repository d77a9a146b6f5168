package track_test

import (
	"testing"

	"lidar/api"
	"lidar/track"
)

func expectValid[T any](t *testing.T, valid func(T) bool, good, bad []T) {
	t.Helper()
	for _, x := range good {
		if !valid(x) {
			t.Errorf("%+v is not valid", x)
		}
	}
	for _, x := range bad {
		if valid(x) {
			t.Errorf("%+v is valid", x)
		}
	}
}

// P4.1
func TestValid(t *testing.T) {
	expectValid(t, track.ValidFix, goodFixes(), badFixes())
	expectValid(t, track.ValidSync, goodSyncs(), badSyncs())
	expectValid(t, track.ValidRules, goodRules(), badRules())
}

// fixesAt returns a part with these times.
func fixesAt(times ...int) []api.Fix {
	var list []api.Fix
	for _, time := range times {
		list = append(list, fixAt(time, 0, 0))
	}
	return list
}

// goodTracks are tracks that are valid for a Gap of 1000.
func goodTracks() []api.Track {
	far := fixesAt(0, 1) // the fixes of a part need not be near each other
	far[1].Pos[0] = 1 << 27
	return []api.Track{
		{},
		{Parts: [][]api.Fix{}},
		{Parts: [][]api.Fix{{easy}}},
		{Parts: [][]api.Fix{fixesAt(0)}},
		{Parts: [][]api.Fix{fixesAt(0, 1, 2)}},
		{Parts: [][]api.Fix{fixesAt(0, 1000, 2000)}},
		{Parts: [][]api.Fix{fixesAt(0, 1), fixesAt(2), fixesAt(3, 4)}},
		{Parts: [][]api.Fix{fixesAt(7), fixesAt(1<<50-1, 1<<50)}},
		{Parts: [][]api.Fix{far}},
	}
}

func badTracks() []api.Track {
	list := []api.Track{
		{Parts: [][]api.Fix{nil}},
		{Parts: [][]api.Fix{fixesAt(0), {}}},
		{Parts: [][]api.Fix{{}, fixesAt(0)}},
		{Parts: [][]api.Fix{fixesAt(0, 1001)}},
		{Parts: [][]api.Fix{fixesAt(0, 1000, 2001)}},
		{Parts: [][]api.Fix{fixesAt(0), fixesAt(5, 1006)}},
		{Parts: [][]api.Fix{fixesAt(5, 5)}},
		{Parts: [][]api.Fix{fixesAt(5, 4)}},
		{Parts: [][]api.Fix{fixesAt(0, 1, 3, 2)}},
		{Parts: [][]api.Fix{fixesAt(0, 1), fixesAt(1, 2)}},
		{Parts: [][]api.Fix{fixesAt(3, 4), fixesAt(0, 1)}},
		{Parts: [][]api.Fix{fixesAt(3), fixesAt(3)}},
		{Parts: [][]api.Fix{fixesAt(0, 9), fixesAt(5, 10)}},
		{Parts: [][]api.Fix{fixesAt(0), fixesAt(5), fixesAt(4)}},
	}
	for _, f := range badFixes() {
		list = append(list, api.Track{Parts: [][]api.Fix{{f}}}, api.Track{Parts: [][]api.Fix{{fixAt(4, 0, 0), f}}}, api.Track{Parts: [][]api.Fix{{f, fixAt(6, 0, 0)}}}, api.Track{Parts: [][]api.Fix{fixesAt(4), {f}}})
	}
	return list
}

// P4.1
func TestValidTrack(t *testing.T) {
	valid := func(tr api.Track) bool { return track.ValidTrack(tr, rules) }
	expectValid(t, valid, goodTracks(), badTracks())
	for _, m := range badRules() {
		for _, tr := range goodTracks() {
			if track.ValidTrack(tr, m) {
				t.Errorf("%v is valid for %v", tr, m)
			}
		}
	}
	for _, m := range goodRules() {
		for _, c := range []struct {
			second int
			want   bool
		}{{m.Gap, true}, {m.Gap + 1, false}, {1, true}} {
			tr := api.Track{Parts: [][]api.Fix{fixesAt(0, c.second)}}
			if got := track.ValidTrack(tr, m); got != c.want {
				t.Errorf("ValidTrack of %v for %v = %t", tr, m, got)
			}
		}
	}
}

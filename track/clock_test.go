package track_test

import (
	"math/rand"
	"slices"
	"testing"

	"lidar/api"
	"lidar/track"
)

// spanOf returns the offsets that a sync says.
func spanOf(s api.Sync) api.Span {
	return wider(api.Span{Lo: s.Nav - s.Scan, Hi: s.Nav - s.Scan}, s.Err)
}

// common returns what the spans of syncs have in common.
func common(syncs []api.Sync) api.Span {
	all := spanOf(syncs[0])
	for _, s := range syncs {
		all = api.Span{Lo: max(all.Lo, spanOf(s).Lo), Hi: min(all.Hi, spanOf(s).Hi)}
	}
	return all
}

// plainClocks takes the longest beginning of the syncs that has a common offset as the first clock, and the rest likewise.
func plainClocks(syncs []api.Sync) []api.Clock {
	syncs = slices.Clone(syncs)
	for i := range syncs { // each one moves in front of those with a greater Scan
		for ; i > 0 && syncs[i-1].Scan > syncs[i].Scan; i-- {
			syncs[i-1], syncs[i] = syncs[i], syncs[i-1]
		}
	}
	var clocks []api.Clock
	for len(syncs) > 0 {
		n := len(syncs)
		for common(syncs[:n]).Lo > common(syncs[:n]).Hi {
			n--
		}
		clocks = append(clocks, api.Clock{From: syncs[0].Scan, Offset: common(syncs[:n])})
		syncs = syncs[n:]
	}
	return clocks
}

func expectClocks(t *testing.T, syncs []api.Sync) []api.Clock {
	t.Helper()
	got, err := track.Clocks(syncs)
	if err != api.OK || !slices.Equal(got, plainClocks(syncs)) {
		t.Errorf("Clocks of %v = %v, error %d, want %v", syncs, got, err, plainClocks(syncs))
	}
	return got
}

// P4.3: examples
func TestClocksExamples(t *testing.T) {
	for _, c := range []struct {
		syncs []api.Sync
		want  []api.Clock
	}{
		{nil, nil},
		{[]api.Sync{}, nil},
		{[]api.Sync{{Scan: 100, Nav: 600, Err: 5}, {Scan: 200, Nav: 703, Err: 5}}, []api.Clock{{From: 100, Offset: api.Span{Lo: 498, Hi: 505}}}},
		{[]api.Sync{{Scan: 100, Nav: 600, Err: 5}, {Scan: 200, Nav: 703, Err: 5}, {Scan: 300, Nav: 900, Err: 5}}, []api.Clock{{From: 100, Offset: api.Span{Lo: 498, Hi: 505}}, {From: 300, Offset: api.Span{Lo: 595, Hi: 605}}}},
		// Spans that touch have a number in common; spans next to each other have none.
		{[]api.Sync{{Scan: 1, Nav: 11, Err: 2}, {Scan: 2, Nav: 16, Err: 2}}, []api.Clock{{From: 1, Offset: api.Span{Lo: 12, Hi: 12}}}},
		{[]api.Sync{{Scan: 1, Nav: 11, Err: 2}, {Scan: 2, Nav: 17, Err: 2}}, []api.Clock{{From: 1, Offset: api.Span{Lo: 8, Hi: 12}}, {From: 2, Offset: api.Span{Lo: 13, Hi: 17}}}},
		// Syncs at one time are taken in the order of the list.
		{[]api.Sync{{Scan: 9, Nav: 9}, {Scan: 7, Nav: 8}, {Scan: 7, Nav: 9}, {Scan: 7, Nav: 7}}, []api.Clock{{From: 7, Offset: api.Span{Lo: 1, Hi: 1}}, {From: 7, Offset: api.Span{Lo: 2, Hi: 2}}, {From: 7, Offset: api.Span{}}}},
		{[]api.Sync{{Scan: 1 << 50, Err: 100000}, {Nav: 1 << 50, Err: 100000}}, []api.Clock{{Offset: api.Span{Lo: 1<<50 - 100000, Hi: 1<<50 + 100000}}, {From: 1 << 50, Offset: api.Span{Lo: -1<<50 - 100000, Hi: -1<<50 + 100000}}}},
	} {
		if got := expectClocks(t, c.syncs); !slices.Equal(got, c.want) {
			t.Errorf("Clocks of %v = %v, want %v", c.syncs, got, c.want)
		}
	}
}

// P4.3: all short lists of few syncs, and lists of many.
func TestClocks(t *testing.T) {
	few := []api.Sync{{Scan: 5, Nav: 7}, {Scan: 5, Nav: 8, Err: 1}, {Scan: 6, Nav: 8, Err: 1}, {Scan: 6, Nav: 10, Err: 1}, {Scan: 4, Nav: 9, Err: 3}}
	allLists(5, len(few)-1, func(list []int) {
		var syncs []api.Sync
		for _, n := range list {
			syncs = append(syncs, few[n])
		}
		expectClocks(t, syncs)
	})
	r := rand.New(rand.NewSource(1))
	for range 500 {
		syncs := make([]api.Sync, r.Intn(60))
		drift := 1 + r.Intn(30)
		for i := range syncs {
			scan := r.Intn(50)
			syncs[i] = api.Sync{Scan: scan, Nav: 1000 + scan + r.Intn(drift), Err: r.Intn(20)}
		}
		expectClocks(t, syncs)
	}
}

// P4.3
func TestClocksErrors(t *testing.T) {
	for _, bad := range badSyncs() {
		for _, syncs := range [][]api.Sync{{bad}, {met, bad}, {bad, met}, {met, bad, met}} {
			if got, err := track.Clocks(syncs); err != api.ErrSync || len(got) != 0 {
				t.Errorf("Clocks of %v = %v, error %d", syncs, got, err)
			}
		}
	}
}

// P4.4: examples, and both limits of times.
func TestNavTime(t *testing.T) {
	three := []api.Clock{{From: 100, Offset: api.Span{Lo: 498, Hi: 505}}, {From: 300, Offset: api.Span{Lo: 595, Hi: 605}}, {From: 300, Offset: api.Span{Lo: -300, Hi: 7}}}
	one := func(lo, hi int) []api.Clock { return []api.Clock{{From: 50, Offset: api.Span{Lo: lo, Hi: hi}}} }
	for _, c := range []struct {
		clocks []api.Clock
		scan   int
		want   api.Span
		err    api.Errno
	}{
		{three, 0, api.Span{Lo: 498, Hi: 505}, api.OK},
		{three, 99, api.Span{Lo: 597, Hi: 604}, api.OK},
		{three, 100, api.Span{Lo: 598, Hi: 605}, api.OK},
		{three, 299, api.Span{Lo: 797, Hi: 804}, api.OK},
		{three[:2], 300, api.Span{Lo: 895, Hi: 905}, api.OK},
		{three, 300, api.Span{Lo: 0, Hi: 307}, api.OK},
		{three, 1 << 50, api.Span{}, api.ErrRange},
		{three, -1, api.Span{}, api.ErrArg},
		{three, 1<<50 + 1, api.Span{}, api.ErrArg},
		{one(-60, 0), 60, api.Span{Lo: 0, Hi: 60}, api.OK},
		{one(-60, 0), 59, api.Span{}, api.ErrRange},
		{one(-60, 0), 1 << 50, api.Span{Lo: 1<<50 - 60, Hi: 1 << 50}, api.OK},
		{one(-60, 1), 1 << 50, api.Span{}, api.ErrRange},
		{one(1<<50, 1<<50), 0, api.Span{Lo: 1 << 50, Hi: 1 << 50}, api.OK},
		{one(1<<50, 1<<50), 1, api.Span{}, api.ErrRange},
		{one(-1<<60, 1<<60), 0, api.Span{}, api.ErrRange},
		{one(1<<60, 1<<60), 1 << 50, api.Span{}, api.ErrRange},
		{one(-1<<60, -1<<60), 1 << 50, api.Span{}, api.ErrRange},
		{[]api.Clock{{From: 1<<63 - 1, Offset: api.Span{Lo: 1, Hi: 2}}}, 5, api.Span{Lo: 6, Hi: 7}, api.OK},
	} {
		if got, err := track.NavTime(c.clocks, c.scan); got != c.want || err != c.err {
			t.Errorf("NavTime of %v and %d = %v, error %d, want %v, error %d", c.clocks, c.scan, got, err, c.want, c.err)
		}
	}
	for _, scan := range extremes {
		if got, err := track.NavTime(three, scan); got != (api.Span{}) || err != api.ErrArg {
			t.Errorf("NavTime of %d = %v, error %d", scan, got, err)
		}
	}
}

// P4.4: clocks that are not valid, with times that are and that are not.
func TestNavTimeErrors(t *testing.T) {
	good := api.Clock{From: 7, Offset: api.Span{Lo: 1, Hi: 2}}
	lists := [][]api.Clock{nil, {}, {{From: 7, Offset: api.Span{Lo: 2, Hi: 1}}}, {{From: -1}}, {{From: -1 << 63}}, {{From: 7, Offset: api.Span{Lo: -1<<60 - 1}}}, {{From: 7, Offset: api.Span{Hi: 1<<60 + 1}}}, {{From: 7, Offset: api.Span{Lo: -1 << 63, Hi: 1<<63 - 1}}}, {good, {From: 6}}, {good, {From: 8}, {From: 7}}, {good, {From: -1}}, {good, {From: 8, Offset: api.Span{Lo: 1}}}, {{From: 7, Offset: api.Span{Lo: 1}}, good}}
	for _, clocks := range lists {
		for _, scan := range append([]int{0, 7, 100, -1}, extremes...) {
			if got, err := track.NavTime(clocks, scan); got != (api.Span{}) || err != api.ErrClock {
				t.Errorf("NavTime of %v and %d = %v, error %d", clocks, scan, got, err)
			}
		}
	}
}

// P4.14: with one true offset there is one clock, and its span contains it, so that NavTime contains the true times.
func TestOneTrueOffset(t *testing.T) {
	r := rand.New(rand.NewSource(2))
	for range 1000 {
		offset := randomBelow(r, 1<<40)
		syncs := make([]api.Sync, 1+r.Intn(20))
		for i := range syncs {
			err := r.Intn(100001) >> r.Intn(18)
			scan := 1<<41 + r.Intn(1<<41)
			syncs[i] = api.Sync{Scan: scan, Nav: scan + offset + randomBelow(r, err), Err: err}
		}
		clocks := expectClocks(t, syncs)
		if len(clocks) != 1 || !contains(clocks[0].Offset, whole(offset)) {
			t.Errorf("the syncs %v with the offset %d have the clocks %v", syncs, offset, clocks)
		}
		scan := 1<<41 + r.Intn(1<<41)
		if time, err := track.NavTime(clocks, scan); err != api.OK || !contains(time, whole(scan+offset)) {
			t.Errorf("NavTime of %v and %d = %v, error %d, want %d", clocks, scan, time, err, scan+offset)
		}
	}
}

// P4.14: the span of each sync, and that of its clock, which is the last one that begins at or in front of it if no others have its Scan.
func TestSyncsMeetTheirClocks(t *testing.T) {
	r := rand.New(rand.NewSource(3))
	for range 500 {
		var syncs []api.Sync
		for scan := range r.Intn(40) {
			syncs = append(syncs, api.Sync{Scan: scan, Nav: 100 + scan + r.Intn(12), Err: r.Intn(6)})
		}
		clocks := expectClocks(t, syncs)
		for _, s := range syncs {
			i := slices.IndexFunc(clocks, func(c api.Clock) bool { return c.From > s.Scan })
			if i < 0 {
				i = len(clocks)
			}
			if offset := clocks[i-1].Offset; max(offset.Lo, spanOf(s).Lo) > min(offset.Hi, spanOf(s).Hi) {
				t.Errorf("the clock of the sync %v has the offset %v", s, offset)
			}
		}
	}
}

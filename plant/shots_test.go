package plant_test

import (
	"cmp"
	"math/rand"
	"slices"
	"testing"

	"lidar/api"
	"lidar/plant"
	"lidar/track"
	"lidar/wave"
)

// plainTrace asks layer 4 for what the chapter says.
func plainTrace(s api.Strip, m api.Motion) (api.Track, []api.Clock, []api.Issue) {
	var syncs []api.Sync
	var fixes []api.Fix
	for _, n := range s.Navs {
		if n.IsSync {
			syncs = append(syncs, n.Sync)
		}
	}
	for _, n := range s.Navs {
		if !n.IsSync {
			fixes = append(fixes, n.Fix)
		}
	}
	clocks, _ := track.Clocks(syncs)
	fixes, issues, _ := track.Clean(fixes, m)
	path, _ := track.Parts(fixes, m)
	return path, clocks, issues
}

// plainBox asks layer 4 for the box of a return.
func plainBox(s api.Strip, m api.Motion, p api.Pulse, r api.Return) (api.Box, api.Pose, bool) {
	path, clocks, _ := plainTrace(s, m)
	time, err := track.NavTime(clocks, p.Time)
	if err != api.OK {
		return api.Box{}, api.Pose{}, false
	}
	pose, err := track.PoseOver(path, m, time)
	if err != api.OK {
		return api.Box{}, api.Pose{}, false
	}
	box, err := track.Locate(pose, p.Scan, r.Range)
	return box, pose, err == api.OK
}

// plainShots forms the shots of a strip one by one.
func plainShots(strip int, s api.Strip, c api.Config) (shots []api.Shot, none int) {
	for _, p := range s.Pulses {
		returns, _ := wave.Returns(p.Pulse, c.Detector)
		for _, r := range returns {
			box, _, ok := plainBox(s, c.Motion, p.Pulse, r)
			if !ok {
				none++
				continue
			}
			id := strip*1099511627776 + p.Seq*16 + r.Num
			shots = append(shots, api.Shot{Id: id, Strip: strip, Num: r.Num, Of: r.Of, Box: box, Top: r.Top})
		}
	}
	slices.SortFunc(shots, func(a, b api.Shot) int { return cmp.Compare(a.Id, b.Id) })
	return shots, none
}

func expectTrace(t *testing.T, s api.Strip, c api.Config) []api.Issue {
	t.Helper()
	path, clocks, issues, err := plant.Trace(s, c)
	wantPath, wantClocks, wantIssues := plainTrace(s, c.Motion)
	expect(t, "the error of Trace", err, api.OK)
	expect(t, "the track", path, wantPath)
	expect(t, "the clocks", clocks, wantClocks)
	expect(t, "the issues", issues, wantIssues)
	return issues
}

// P10.2
func TestTrace(t *testing.T) {
	r := rand.New(rand.NewSource(1))
	kinds := map[int]int{}
	for range 150 {
		for _, issue := range expectTrace(t, messy(r, 3+r.Intn(20)), config(1)) {
			kinds[issue.Kind]++
		}
	}
	expectTrace(t, api.Strip{}, config(1))
	jump := api.Strip{}
	for i := range 8 {
		jump.Navs = append(jump.Navs, fixAt(i*1000))
		jump.Navs[i].Fix.Pos[1] = i / 4 * 50000
	}
	for _, issue := range expectTrace(t, jump, config(1)) {
		kinds[issue.Kind]++
	}
	for _, kind := range []int{api.IssueTwice, api.IssueOff, api.IssueJump} {
		if kinds[kind] == 0 {
			t.Errorf("there is no issue of the kind %d", kind)
		}
	}
}

// P10.2: syncs of one time are taken in their order, with fixes between them.
func TestTraceOrder(t *testing.T) {
	a, b := syncAt(5, 100, 1), syncAt(5, 200, 1)
	for _, navs := range [][]api.Nav{{a, fixAt(9), b, fixAt(4)}, {fixAt(4), b, a, fixAt(9)}} {
		expectTrace(t, api.Strip{Navs: navs}, config(1))
	}
	_, clocks, _, _ := plant.Trace(api.Strip{Navs: []api.Nav{b, a}}, config(1))
	expect(t, "the clocks", clocks, []api.Clock{{From: 5, Offset: api.Span{Lo: 194, Hi: 196}}, {From: 5, Offset: api.Span{Lo: 94, Hi: 96}}})
}

// P10.2: errors in their order, and nothing beside them.
func TestTraceErrors(t *testing.T) {
	check := func(s api.Strip, c api.Config, want api.Errno) {
		t.Helper()
		path, clocks, issues, err := plant.Trace(s, c)
		if err != want || len(path.Parts)+len(clocks)+len(issues) > 0 {
			t.Errorf("Trace of %v with %v: %v, %v, %v, error %d, not %d", s, c, path, clocks, issues, err, want)
		}
	}
	for _, c := range badConfigs() {
		check(single(), c, api.ErrConfig)
		check(badStrips()[0], c, api.ErrConfig)
	}
	for _, s := range badStrips() {
		check(s, config(1), api.ErrStrip)
	}
}

// P10.3, P10.17: the shots are those of the chapter, with different Ids, and each return is a shot or has no box.
func TestShots(t *testing.T) {
	r := rand.New(rand.NewSource(2))
	all, without := 0, 0
	for range 120 {
		s, c, strip := messy(r, 3+r.Intn(20)), config(1+r.Intn(3)), r.Intn(8)
		shots, none := shotsOf(t, strip, s, c)
		want, wantNone := plainShots(strip, s, c)
		expect(t, "the shots", shots, want)
		expect(t, "the number of returns without a box", none, wantNone)
		returns, ids := 0, map[int]bool{}
		for _, p := range s.Pulses {
			list, _ := wave.Returns(p.Pulse, c.Detector)
			returns += len(list)
		}
		for _, shot := range shots {
			ids[shot.Id] = true
		}
		if len(ids) != len(shots) || len(shots)+none != returns {
			t.Fatalf("%d shots with %d Ids and %d returns without a box, of %d returns", len(shots), len(ids), none, returns)
		}
		all, without = all+returns, without+none
	}
	if without < all/20 || without > all/2 {
		t.Errorf("%d of %d returns have no box", without, all)
	}
}

// P10.3: the greatest Ids, and pulses whose numbers are not in order.
func TestIds(t *testing.T) {
	s := single()
	s.Pulses = []api.Numbered{
		pulseAt(1<<32-1, 500, echoes(3, 3, 3, 3, 3, 3, 3, 3, 3, 3, 3, 3, 3, 3, 3, 3)),
		pulseAt(1, 400, echoes(3)), pulseAt(2, 300, nil), pulseAt(0, 200, echoes(3, 3)),
	}
	shots, none := shotsOf(t, 7, s, config(1))
	if len(shots) != 18 || none != 0 {
		t.Fatalf("Shots: %v, %d", shots, none)
	}
	for i, id := range []int{1, 2, 17} {
		if shots[i].Id != 7<<40+id || shots[i].Strip != 7 {
			t.Errorf("the shot %d is %v", i, shots[i])
		}
	}
	if last := shots[17]; last.Id != 7<<40+(1<<32-1)<<4+15 || last.Num != 15 || last.Of != 15 || last.Top != 20 {
		t.Errorf("the last shot is %v", last)
	}
}

// P10.3: of the returns of one pulse, those that are far may have no box; there may be no clock, no track, or no track at this time.
func TestNoBox(t *testing.T) {
	c := config(1)
	c.Motion = api.Motion{Gap: 10000000, Rate: 10000000}
	c.Detector.Step, c.Detector.Delay = 10000, 100000
	s := api.Strip{
		Pulses: []api.Numbered{pulseAt(0, 5000000, echoes(3, 170))},
		Navs:   []api.Nav{syncAt(0, 0, 0), fixAt(0), fixAt(10000000)},
	}
	s.Navs[2].Fix.Pos = s.Navs[1].Fix.Pos
	for i := range s.Navs[1:] {
		s.Navs[1+i].Fix.Pos[0], s.Navs[1+i].Fix.Tilt = 1<<27, 1000000
	}
	shots, none := shotsOf(t, 0, s, c)
	if len(shots) != 2 || none != 0 {
		t.Fatalf("Shots: %v, %d", shots, none)
	}
	c.Detector.Delay = 1 << 20
	shots, none = shotsOf(t, 0, s, c)
	if len(shots) != 1 || none != 1 || shots[0].Id != 1 || shots[0].Of != 2 {
		t.Fatalf("Shots of a far return: %v, %d", shots, none)
	}
	for name, navs := range map[string][]api.Nav{
		"nothing":           nil,
		"no clock":          s.Navs[1:],
		"no track":          s.Navs[:1],
		"another time":      {syncAt(0, 6000000, 0), s.Navs[1], s.Navs[2]},
		"a time before all": {syncAt(5000000, 0, 100), s.Navs[1], s.Navs[2]},
	} {
		s.Navs = navs
		if shots, none := shotsOf(t, 0, s, c); len(shots) != 0 || none != 2 {
			t.Errorf("%s: Shots: %v, %d", name, shots, none)
		}
	}
}

// P10.3: errors in their order, and nothing beside them.
func TestShotsErrors(t *testing.T) {
	check := func(strip int, s api.Strip, c api.Config, want api.Errno) {
		t.Helper()
		if shots, none, err := plant.Shots(strip, s, c); err != want || len(shots) > 0 || none != 0 {
			t.Errorf("Shots of %d, %v, %v: %v, %d, error %d, not %d", strip, s, c, shots, none, err, want)
		}
	}
	for _, c := range badConfigs() {
		check(0, single(), c, api.ErrConfig)
		check(-1, badStrips()[0], c, api.ErrConfig)
	}
	for _, strip := range []int{-1, 8, -1 << 63, 1<<63 - 1} {
		check(strip, single(), config(1), api.ErrArg)
		check(strip, badStrips()[0], config(1), api.ErrArg)
	}
	for _, s := range badStrips() {
		check(7, s, config(1), api.ErrStrip)
	}
	if shots, _ := shotsOf(t, 5, single(), config(1)); len(shots) != 1 {
		t.Errorf("Shots of a strip beyond those of the configuration: %v", shots)
	}
}

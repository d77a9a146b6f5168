package track_test

import (
	"math/big"
	"math/rand"
	"slices"
	"testing"

	"lidar/api"
	"lidar/track"
)

// plainPose returns the pose at a time between those of two fixes, without rounding up to its ends.
func plainPose(a, b api.Fix, m api.Motion, time int) api.Pose {
	u, v := time-a.Time, b.Time-time
	bend := ceil(times(times(whole(m.Accel), whole(u)), ratio(v, 2000000000000)))
	at := func(x, y int) *big.Rat {
		return plus(times(whole(x), ratio(v, u+v)), times(whole(y), ratio(u, u+v)))
	}
	p := api.Pose{Quat: a.Quat, Tilt: a.Tilt + millionth(m.Rate, u)}
	if u > v {
		p = api.Pose{Quat: b.Quat, Tilt: b.Tilt + millionth(m.Rate, v)}
	}
	for i := range 3 {
		p.Pos[i].Lo = floor(at(a.Pos[i]-a.Err, b.Pos[i]-b.Err)) - bend
		p.Pos[i].Hi = ceil(at(a.Pos[i]+a.Err, b.Pos[i]+b.Err)) + bend
	}
	return p
}

// poseOf returns the pose at the time of a fix.
func poseOf(f api.Fix) api.Pose {
	p := api.Pose{Quat: f.Quat, Tilt: f.Tilt}
	for i, x := range f.Pos {
		p.Pos[i] = api.Span{Lo: x - f.Err, Hi: x + f.Err}
	}
	return p
}

func expectPose(t *testing.T, tr api.Track, m api.Motion, time int, want api.Pose) {
	t.Helper()
	if got, err := track.PoseAt(tr, m, time); err != api.OK || got != want {
		t.Errorf("PoseAt of %v with %v at %d = %v, error %d, want %v", tr, m, time, got, err, want)
	}
}

func expectGap(t *testing.T, tr api.Track, m api.Motion, time int) {
	t.Helper()
	if got, err := track.PoseAt(tr, m, time); err != api.ErrGap || got != (api.Pose{}) {
		t.Errorf("PoseAt of %v at %d = %v, error %d", tr, time, got, err)
	}
}

// P4.8: examples
func TestPoseExamples(t *testing.T) {
	a := api.Fix{Time: 0, Err: 10, Quat: [4]int{1, 2, 3, 4}, Tilt: 7}
	b := api.Fix{Time: 1000, Pos: [3]int{100, -100, 0}, Err: 20, Quat: [4]int{5, 6, 7, 8}, Tilt: 9}
	tr := api.Track{Parts: [][]api.Fix{{a, b}}}
	m := api.Motion{Gap: 1000, Rate: 1999}
	expectPose(t, tr, m, 250, api.Pose{Pos: [3]api.Span{{Lo: 12, Hi: 38}, {Lo: -38, Hi: -12}, {Lo: -13, Hi: 13}}, Quat: a.Quat, Tilt: 8})
	expectPose(t, tr, m, 500, api.Pose{Pos: [3]api.Span{{Lo: 35, Hi: 65}, {Lo: -65, Hi: -35}, {Lo: -15, Hi: 15}}, Quat: a.Quat, Tilt: 8})
	expectPose(t, tr, m, 501, api.Pose{Pos: [3]api.Span{{Lo: 35, Hi: 66}, {Lo: -66, Hi: -35}, {Lo: -16, Hi: 16}}, Quat: b.Quat, Tilt: 10})
	expectPose(t, tr, m, 0, poseOf(a))
	expectPose(t, tr, m, 1000, poseOf(b))
	m.Accel = 80000 // a bend of 0.01, rounded up
	expectPose(t, tr, m, 500, api.Pose{Pos: [3]api.Span{{Lo: 34, Hi: 66}, {Lo: -66, Hi: -34}, {Lo: -16, Hi: 16}}, Quat: a.Quat, Tilt: 8})
	expectPose(t, tr, m, 1000, poseOf(b))
	// A bend, a Tilt and coordinates that need no rounding.
	tr.Parts[0][1].Time = 9000
	m = api.Motion{Gap: 9000, Accel: 100000, Rate: 500}
	tr.Parts[0][1].Err = 10
	tr.Parts[0][1].Pos = [3]int{90, -90, 0}
	expectPose(t, tr, m, 4000, api.Pose{Pos: [3]api.Span{{Lo: 29, Hi: 51}, {Lo: -51, Hi: -29}, {Lo: -11, Hi: 11}}, Quat: a.Quat, Tilt: 9})
}

// P4.8: the greatest gap, acceleration and coordinates.
func TestGreatestPoses(t *testing.T) {
	m := api.Motion{Gap: 10000000, Speed: 1000000, Accel: 100000, Rate: 10000000}
	for _, side := range []int{-1, 1} {
		a := api.Fix{Time: 1<<50 - 10000000, Pos: [3]int{side << 27, -side << 27, 0}, Err: 100000, Quat: unturned, Tilt: 1000000}
		b := api.Fix{Time: 1 << 50, Pos: [3]int{side << 27, side << 27, 1}, Err: 100000, Quat: unturned, Tilt: 1000000}
		tr := api.Track{Parts: [][]api.Fix{{a, b}}}
		for _, u := range []int{1, 2, 4999999, 5000000, 5000001, 9999999} {
			expectPose(t, tr, m, a.Time+u, plainPose(a, b, m, a.Time+u))
		}
		middle, _ := track.PoseAt(tr, m, a.Time+5000000)
		if bend := 1250000; middle.Pos[0] != wider(api.Span{Lo: side << 27, Hi: side << 27}, 100000+bend) || middle.Tilt != 1000000+50000000 {
			t.Errorf("the pose in the middle is %v", middle)
		}
	}
}

// randomTrack returns a track of several parts.
func randomTrack(r *rand.Rand, m api.Motion) api.Track {
	tr := api.Track{Parts: make([][]api.Fix, 1+r.Intn(3))}
	time := r.Intn(1 << 40)
	for i := range tr.Parts {
		for range 1 + r.Intn(4) {
			f := randomFix(r)
			f.Time = time
			tr.Parts[i] = append(tr.Parts[i], f)
			time += 1 + r.Intn(m.Gap)>>r.Intn(24)
		}
		time += r.Intn(3) * r.Intn(2*m.Gap)
	}
	return tr
}

// randomTime returns a time in the part or around it, often one of its fixes.
func randomTime(r *rand.Rand, part []api.Fix) int {
	i := r.Intn(len(part))
	if i == 0 || r.Intn(4) == 0 {
		return part[i].Time + r.Intn(3) - 1
	}
	return part[i-1].Time + r.Intn(part[i].Time-part[i-1].Time+1)
}

// plainPoseAt returns the pose that P4.8 says, and whether there is one.
func plainPoseAt(tr api.Track, m api.Motion, time int) (api.Pose, bool) {
	for _, part := range tr.Parts {
		for i, f := range part {
			if f.Time == time {
				return poseOf(f), true
			}
			if i > 0 && part[i-1].Time < time && time < f.Time {
				return plainPose(part[i-1], f, m, time), true
			}
		}
	}
	return api.Pose{}, false
}

// P4.8
func TestPoseAt(t *testing.T) {
	r := rand.New(rand.NewSource(1))
	for range 3000 {
		m := randomRules(r)
		tr := randomTrack(r, m)
		for _, part := range tr.Parts {
			time := randomTime(r, part)
			if want, ok := plainPoseAt(tr, m, time); ok {
				expectPose(t, tr, m, time, want)
			} else {
				expectGap(t, tr, m, time)
			}
		}
	}
}

// P4.8: times between parts, in front of them and behind them.
func TestGaps(t *testing.T) {
	expectGap(t, api.Track{}, rules, 0)
	tr := api.Track{Parts: [][]api.Fix{fixesAt(10, 20), fixesAt(21), fixesAt(25, 30)}}
	for time := -2; time < 40; time++ {
		if 10 <= time && time <= 21 || 25 <= time && time <= 30 {
			expectPose(t, tr, api.Motion{Gap: 10}, time, api.Pose{Quat: unturned})
		} else {
			expectGap(t, tr, api.Motion{Gap: 10}, time)
		}
	}
	for _, time := range extremes {
		expectGap(t, tr, rules, time)
	}
}

// P4.8, P4.9: the order of errors.
func TestPoseErrors(t *testing.T) {
	expect := func(tr api.Track, m api.Motion, time api.Span, want api.Errno) {
		t.Helper()
		if got, err := track.PoseOver(tr, m, time); err != want || got != (api.Pose{}) {
			t.Errorf("PoseOver of %v with %v over %v = %v, error %d, want %d", tr, m, time, got, err, want)
		}
		if want == api.ErrArg {
			return
		}
		if got, err := track.PoseAt(tr, m, time.Lo); err != want || got != (api.Pose{}) {
			t.Errorf("PoseAt of %v with %v at %d = %v, error %d, want %d", tr, m, time.Lo, got, err, want)
		}
	}
	backward, far := api.Span{Lo: 1}, api.Span{Lo: 1 << 60, Hi: 1<<60 + 1}
	for _, tr := range badTracks() {
		for _, time := range []api.Span{{}, {Lo: 4, Hi: 4}, backward, far} {
			expect(tr, rules, time, api.ErrTrack)
			expect(tr, api.Motion{}, time, api.ErrRules)
		}
	}
	for _, m := range badRules() {
		expect(api.Track{Parts: [][]api.Fix{fixesAt(0, 1)}}, m, api.Span{Lo: 0, Hi: 1}, api.ErrRules)
		expect(api.Track{Parts: [][]api.Fix{fixesAt(0, 1)}}, m, backward, api.ErrRules)
	}
	for _, tr := range goodTracks() {
		for _, time := range []api.Span{backward, far, {Lo: -1<<60 - 1}, {Lo: -1 << 63, Hi: 1<<63 - 1}, {Lo: 1<<63 - 1, Hi: -1 << 63}} {
			expect(tr, rules, time, api.ErrArg)
		}
		expect(tr, rules, api.Span{Lo: 1 << 60, Hi: 1 << 60}, api.ErrGap)
	}
}

// partAt returns the index of the part in which a time is, or -1.
func partAt(tr api.Track, time int) int {
	return slices.IndexFunc(tr.Parts, func(part []api.Fix) bool {
		return part[0].Time <= time && time <= part[len(part)-1].Time
	})
}

// P4.9
func TestPoseOver(t *testing.T) {
	r := rand.New(rand.NewSource(2))
	for range 3000 {
		m := randomRules(r)
		tr := randomTrack(r, m)
		part := tr.Parts[r.Intn(len(tr.Parts))]
		from, to := randomTime(r, part), randomTime(r, part)
		time := api.Span{Lo: min(from, to), Hi: max(from, to)}
		var want api.Pose
		wantErr := api.ErrGap
		if i := partAt(tr, time.Lo); i >= 0 && i == partAt(tr, time.Hi) {
			want, _ = plainPoseAt(tr, m, time.Lo)
			for k := range 3 {
				want.Pos[k] = wider(want.Pos[k], millionth(m.Speed, time.Hi-time.Lo))
			}
			want.Tilt += millionth(m.Rate, time.Hi-time.Lo)
			wantErr = api.OK
		}
		if got, err := track.PoseOver(tr, m, time); err != wantErr || got != want {
			t.Errorf("PoseOver of %v with %v over %v = %v, error %d, want %v, error %d", tr, m, time, got, err, want, wantErr)
		}
	}
}

// P4.9: both ends have to be in one part.
func TestGapsOfSpans(t *testing.T) {
	tr := api.Track{Parts: [][]api.Fix{fixesAt(1, 3), fixesAt(4), fixesAt(6, 8)}}
	parts := []int{0, 1, 1, 1, 2, 0, 3, 3, 3, 0, 0}
	for lo := range parts {
		for hi := lo; hi < len(parts); hi++ {
			got, err := track.PoseOver(tr, rules, api.Span{Lo: lo, Hi: hi})
			if inOne := parts[lo] > 0 && parts[lo] == parts[hi]; inOne != (err == api.OK) || !inOne && (err != api.ErrGap || got != (api.Pose{})) {
				t.Errorf("PoseOver over %d to %d = %v, error %d", lo, hi, got, err)
			}
		}
	}
}

// P4.9, R5: the product of the rate with the length of a long part does not fit into an int.
func TestPoseOverLongParts(t *testing.T) {
	m := api.Motion{Gap: 10000000, Speed: 1000000, Rate: 10000000}
	var part []api.Fix
	for i := range 100001 {
		part = append(part, fixAt(10000000*i, 0, 0))
	}
	length := 10000000 * 100000 // times the rate it is 10^19
	want := api.Pose{Quat: unturned, Tilt: length * 10}
	for i := range 3 {
		want.Pos[i] = api.Span{Lo: -length, Hi: length}
	}
	got, err := track.PoseOver(api.Track{Parts: [][]api.Fix{part}}, m, api.Span{Hi: length})
	if err != api.OK || got != want {
		t.Errorf("PoseOver = %v, error %d, want %v", got, err, want)
	}
}

// P4.16, P3: positions that begin and end within the bounds of the fixes, with an acceleration that is constant between them.
func TestMotionsLieWithinPoses(t *testing.T) {
	r := rand.New(rand.NewSource(3))
	for range 3000 {
		m := randomRules(r)
		a, b := randomFix(r), randomFix(r)
		a.Time = r.Intn(1 << 40)
		b.Time = a.Time + 2 + r.Intn(10000000-2)
		m.Gap = 10000000
		time := a.Time + 1 + r.Intn(b.Time-a.Time-1)
		p, err := track.PoseAt(api.Track{Parts: [][]api.Fix{{a, b}}}, m, time)
		if err != api.OK {
			t.Fatalf("PoseAt: error %d", err)
		}
		u, v := time-a.Time, b.Time-time
		for i := range 3 {
			for _, side := range []int{-1, 0, 1} {
				from, to := whole(a.Pos[i]+side*a.Err), whole(b.Pos[i]+side*b.Err)
				straight := plus(times(from, ratio(v, u+v)), times(to, ratio(u, u+v)))
				// The second derivative of the quadratic function is side * Accel, in millimetres and seconds.
				bend := times(times(whole(side*m.Accel), whole(u)), ratio(v, 2000000000000))
				if x := plus(straight, bend); !contains(p.Pos[i], x) {
					t.Errorf("%v is not in %v", x, p.Pos[i])
				}
			}
		}
	}
}

package track

import (
	"cmp"
	"slices"

	"lidar/api"
	"lidar/exact"
)

// PoseAt returns the pose at a time.
func PoseAt(t api.Track, m api.Motion, time int) (api.Pose, api.Errno) {
	if err := trackError(t, m); err != api.OK {
		return api.Pose{}, err
	}
	part, ok := partWith(t, time)
	if !ok {
		return api.Pose{}, api.ErrGap
	}
	return poseIn(part, m, time), api.OK
}

// PoseOver returns a pose for every time of a span.
func PoseOver(t api.Track, m api.Motion, time api.Span) (api.Pose, api.Errno) {
	if err := trackError(t, m); err != api.OK {
		return api.Pose{}, err
	}
	if !exact.Valid(time) {
		return api.Pose{}, api.ErrArg
	}
	part, ok := partWith(t, time.Lo, time.Hi)
	if !ok {
		return api.Pose{}, api.ErrGap
	}
	p := poseIn(part, m, time.Lo)
	n := time.Hi - time.Lo
	for i, s := range p.Pos {
		p.Pos[i] = around(s, perMillion(m.Speed, n))
	}
	p.Tilt += perMillion(m.Rate, n)
	return p, api.OK
}

func trackError(t api.Track, m api.Motion) api.Errno {
	if !ValidRules(m) {
		return api.ErrRules
	}
	if !ValidTrack(t, m) {
		return api.ErrTrack
	}
	return api.OK
}

// partWith returns the part of a track in which all times are, and whether there is one.
func partWith(t api.Track, times ...int) ([]api.Fix, bool) {
	for _, part := range t.Parts {
		if within(part[0].Time, part[len(part)-1].Time, times...) {
			return part, true
		}
	}
	return nil, false
}

// poseIn returns the pose at a time that is in the part.
func poseIn(part []api.Fix, m api.Motion, time int) api.Pose {
	i, found := slices.BinarySearchFunc(part, time, func(f api.Fix, time int) int { return cmp.Compare(f.Time, time) })
	if !found {
		return between(part[i-1], part[i], m, time)
	}
	f := part[i]
	p := api.Pose{Quat: f.Quat, Tilt: f.Tilt}
	for k := range p.Pos {
		p.Pos[k] = coordinate(f, k)
	}
	return p
}

// coordinate returns bounds on a coordinate at the time of a fix.
func coordinate(f api.Fix, k int) api.Span {
	return around(point(f.Pos[k]), f.Err)
}

// between returns the pose at a time between those of consecutive fixes.
func between(a, b api.Fix, m api.Motion, time int) api.Pose {
	u, v := time-a.Time, b.Time-time
	next, w := a, u
	if u > v {
		next, w = b, v
	}
	p := api.Pose{Quat: next.Quat, Tilt: next.Tilt + perMillion(m.Rate, w)}
	// As u + v is at most MaxGap, the products here and in blended fit into an int.
	bend := roundedUp(m.Accel*u*v, 2*million*million)
	for k := range p.Pos {
		p.Pos[k] = around(blended(coordinate(a, k), coordinate(b, k), u, v), bend)
	}
	return p
}

// blended returns bounds on a coordinate that moves straight from within a to within b, at u behind a and v in front of b.
func blended(a, b api.Span, u, v int) api.Span {
	sum := api.Span{Lo: a.Lo*v + b.Lo*u, Hi: a.Hi*v + b.Hi*u}
	mean, _ := exact.Over(sum, u+v) // no error: the sum is far below MaxNum
	return mean
}

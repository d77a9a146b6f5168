package plant

import (
	"cmp"
	"slices"

	"lidar/api"
	"lidar/track"
	"lidar/wave"
)

// The Id of a shot consists of its strip, the number of its pulse, and the number of its return.
const (
	stripBits = 40
	pulseBits = 4
)

// Trace returns the track and the clocks of a strip, and what is wrong with its fixes.
func Trace(s api.Strip, c api.Config) (api.Track, []api.Clock, []api.Issue, api.Errno) {
	if !Valid(c) {
		return api.Track{}, nil, nil, api.ErrConfig
	}
	if !ValidStrip(s) {
		return api.Track{}, nil, nil, api.ErrStrip
	}
	f, issues := flightOf(s, c.Motion)
	return f.path, f.clocks, issues, api.OK
}

// flight says where the aircraft was at each time of the scanner.
type flight struct {
	path   api.Track
	clocks []api.Clock
	rules  api.Motion
}

// flightOf returns the flight of valid data, and what is wrong with its fixes. With valid data and rules there is no error on the way.
func flightOf(s api.Strip, rules api.Motion) (flight, []api.Issue) {
	var syncs []api.Sync
	var fixes []api.Fix
	for _, n := range s.Navs {
		if n.IsSync {
			syncs = append(syncs, n.Sync)
		} else {
			fixes = append(fixes, n.Fix)
		}
	}
	clocks, _ := track.Clocks(syncs)
	kept, issues, _ := track.Clean(fixes, rules)
	path, _ := track.Parts(kept, rules)
	return flight{path: path, clocks: clocks, rules: rules}, issues
}

// pose returns the pose at a time of the scanner, if it is known.
func (f flight) pose(scan int) (api.Pose, api.Errno) {
	time, err := track.NavTime(f.clocks, scan)
	if err != api.OK {
		return api.Pose{}, err
	}
	return track.PoseOver(f.path, f.rules, time)
}

// Shots returns the shots of a strip, in ascending order of their Ids, and how many returns have no box.
func Shots(strip int, s api.Strip, c api.Config) ([]api.Shot, int, api.Errno) {
	switch {
	case !Valid(c):
		return nil, 0, api.ErrConfig
	case !within(0, api.MaxStrips-1, strip):
		return nil, 0, api.ErrArg
	case !ValidStrip(s):
		return nil, 0, api.ErrStrip
	}
	list, none := shotsOf(strip, s, c)
	return list, none, api.OK
}

// shotsOf is Shots for what is valid.
func shotsOf(strip int, s api.Strip, c api.Config) (shots []api.Shot, none int) {
	f, _ := flightOf(s, c.Motion)
	for _, p := range s.Pulses {
		returns, _ := wave.Returns(p.Pulse, c.Detector) // no error: both are valid
		pose, lost := f.pose(p.Pulse.Time)
		for _, r := range returns {
			box, err := track.Locate(pose, p.Pulse.Scan, r.Range)
			if lost != api.OK || err != api.OK {
				none++
				continue
			}
			id := strip<<stripBits + p.Seq<<pulseBits + r.Num
			shots = append(shots, api.Shot{Id: id, Strip: strip, Num: r.Num, Of: r.Of, Box: box, Top: r.Top})
		}
	}
	slices.SortFunc(shots, func(a, b api.Shot) int { return cmp.Compare(a.Id, b.Id) })
	return shots, none
}

package plant

import (
	"slices"

	"lidar/api"
	"lidar/label"
	"lidar/track"
	"lidar/wave"
)

const (
	maxClass   = 255
	maxClasses = 16
	maxEvery   = 1000
)

// Valid reports whether a configuration is valid.
func Valid(c api.Config) bool {
	return within(1, api.MaxStrips, c.Strips) &&
		within(1, api.MaxWindow, c.Window) &&
		within(1, api.MaxCap, c.Cap) &&
		c.Limit >= 0 &&
		wave.ValidDetector(c.Detector) &&
		track.ValidRules(c.Motion) &&
		label.ValidRules(c.Terrain)
}

// ValidStrip reports whether strip data are valid.
func ValidStrip(s api.Strip) bool {
	if len(s.Pulses) > api.MaxPulses || len(s.Navs) > api.MaxFixes {
		return false
	}
	seen := map[int]bool{}
	for _, p := range s.Pulses {
		if !within(0, api.MaxSeq, p.Seq) || seen[p.Seq] || !wave.Valid(p.Pulse) {
			return false
		}
		seen[p.Seq] = true
	}
	return !slices.ContainsFunc(s.Navs, func(n api.Nav) bool { return !validNav(n) })
}

func validNav(n api.Nav) bool {
	if n.IsSync {
		return track.ValidSync(n.Sync) && n.Fix == api.Fix{}
	}
	return track.ValidFix(n.Fix) && n.Sync == api.Sync{}
}

// ValidOrder reports whether an order is valid.
func ValidOrder(o api.Order) bool {
	return within(0, api.MaxLevel, o.Level) &&
		(len(o.Ring) == 0 || validRing(o.Ring)) &&
		len(o.Classes) <= maxClasses && within(0, maxClass, o.Classes...) &&
		within(1, maxEvery, o.Every)
}

// validRing asks layer 7 for any place: it looks at the ring first.
func validRing(ring []api.XY) bool {
	_, err := label.Within(ring, api.XY{})
	return err == api.OK
}

// validPoints reports whether points are valid and have classes that can be handed on.
func validPoints(points []api.Point) bool {
	return label.Valid(points) && !slices.ContainsFunc(points, func(p api.Point) bool { return !within(0, maxClass, p.Class) })
}

func within(lo, hi int, numbers ...int) bool {
	for _, n := range numbers {
		if n < lo || n > hi {
			return false
		}
	}
	return true
}

package plant_test

import (
	"math"
	"slices"
	"testing"

	"lidar/api"
	"lidar/plant"
)

// badConfigs are configurations that are not valid, each by one field.
func badConfigs() []api.Config {
	list := []api.Config{{}}
	for _, spoil := range []func(c *api.Config){
		func(c *api.Config) { c.Strips = 0 },
		func(c *api.Config) { c.Strips = -1 },
		func(c *api.Config) { c.Strips = 9 },
		func(c *api.Config) { c.Window = 0 },
		func(c *api.Config) { c.Window = 65 },
		func(c *api.Config) { c.Cap = 0 },
		func(c *api.Config) { c.Cap = 65 },
		func(c *api.Config) { c.Limit = -1 },
		func(c *api.Config) { c.Limit = math.MinInt },
		func(c *api.Config) { c.Detector.Level = 0 },
		func(c *api.Config) { c.Detector.Drop = 1024 },
		func(c *api.Config) { c.Detector.Step = 10001 },
		func(c *api.Config) { c.Detector.Delay = 1<<20 + 1 },
		func(c *api.Config) { c.Motion.Gap = 0 },
		func(c *api.Config) { c.Motion.Speed = 1000001 },
		func(c *api.Config) { c.Motion.Accel = -1 },
		func(c *api.Config) { c.Motion.Rate = 10000001 },
		func(c *api.Config) { c.Terrain.Cell = 0 },
		func(c *api.Config) { c.Terrain.Slope = 100001 },
		func(c *api.Config) { c.Terrain.Few = 1025 },
	} {
		list = append(list, with(spoil))
	}
	return list
}

// P10.1
func TestValid(t *testing.T) {
	for _, change := range []func(c *api.Config){
		func(c *api.Config) {},
		func(c *api.Config) { c.Strips, c.Window, c.Cap, c.Limit = 1, 1, 1, 0 },
		func(c *api.Config) { c.Strips, c.Window, c.Cap, c.Limit = 8, 64, 64, math.MaxInt },
		func(c *api.Config) { c.Detector = api.Detector{Level: 1, Drop: 1023, Step: 1, Delay: -1 << 20} },
		func(c *api.Config) { c.Motion = api.Motion{Gap: 1} },
		func(c *api.Config) { c.Terrain = api.Terrain{Cell: 1, Link: 1, Few: 1024} },
	} {
		if c := with(change); !plant.Valid(c) {
			t.Errorf("%v is not valid", c)
		}
	}
	for _, c := range badConfigs() {
		if plant.Valid(c) {
			t.Errorf("%v is valid", c)
		}
	}
}

// stripWith returns valid strip data with a change.
func stripWith(change func(s *api.Strip)) api.Strip {
	s := single()
	change(&s)
	return s
}

func manyPulses(n int) []api.Numbered {
	var list []api.Numbered
	for i := range n {
		list = append(list, pulseAt(i, i, nil))
	}
	return list
}

func manyNavs(n int) []api.Nav {
	var list []api.Nav
	for i := range n {
		if i%3 == 0 {
			list = append(list, syncAt(i, i, 0))
		} else {
			list = append(list, fixAt(i))
		}
	}
	return list
}

// badStrips are strip data that are not valid, each by one thing.
func badStrips() []api.Strip {
	var list []api.Strip
	for _, spoil := range []func(s *api.Strip){
		func(s *api.Strip) { s.Pulses[0].Seq = -1 },
		func(s *api.Strip) { s.Pulses[0].Seq = 1 << 32 },
		func(s *api.Strip) { s.Pulses = append(s.Pulses, pulseAt(1, 5, nil), s.Pulses[0]) },
		func(s *api.Strip) { s.Pulses = append(s.Pulses, pulseAt(0, 5, nil)) },
		func(s *api.Strip) { s.Pulses[0].Pulse.Time = -1 },
		func(s *api.Strip) { s.Pulses[0].Pulse.Scan = [4]int{} },
		func(s *api.Strip) { s.Pulses = append(s.Pulses, pulseAt(1, 5, []int{1024})) },
		func(s *api.Strip) { s.Pulses = manyPulses(257) },
		func(s *api.Strip) { s.Navs = manyNavs(4097) },
		func(s *api.Strip) { s.Navs[0].Sync.Err = 100001 },
		func(s *api.Strip) { s.Navs[0].Sync.Scan = -1 },
		func(s *api.Strip) { s.Navs[0].Fix.Time = 1 },
		func(s *api.Strip) { s.Navs[0].Fix = fixAt(5).Fix },
		func(s *api.Strip) { s.Navs[0].IsSync = false },
		func(s *api.Strip) { s.Navs[2].Fix.Quat = [4]int{} },
		func(s *api.Strip) { s.Navs[2].Fix.Pos[2] = 1<<27 + 1 },
		func(s *api.Strip) { s.Navs[1].Sync.Err = 1 },
		func(s *api.Strip) { s.Navs[1].Sync = syncAt(5, 5, 5).Sync },
		func(s *api.Strip) { s.Navs[1].IsSync = true },
		func(s *api.Strip) { s.Navs = append(s.Navs, api.Nav{}) },
	} {
		list = append(list, stripWith(spoil))
	}
	return list
}

// P10.1
func TestValidStrip(t *testing.T) {
	for _, change := range []func(s *api.Strip){
		func(s *api.Strip) {},
		func(s *api.Strip) { *s = api.Strip{} },
		func(s *api.Strip) { s.Pulses[0].Seq = 1<<32 - 1 },
		func(s *api.Strip) { s.Pulses = append(s.Pulses, pulseAt(7, 5, nil), pulseAt(3, 5, nil)) },
		func(s *api.Strip) { s.Pulses = manyPulses(256) },
		func(s *api.Strip) { s.Navs = manyNavs(4096) },
		func(s *api.Strip) { s.Navs = append(s.Navs, s.Navs[0], s.Navs[1], syncAt(0, 0, 0)) },
		func(s *api.Strip) { slices.Reverse(s.Navs) },
	} {
		if s := stripWith(change); !plant.ValidStrip(s) {
			t.Errorf("%v is not valid", s)
		}
	}
	for i, s := range badStrips() {
		if plant.ValidStrip(s) {
			t.Errorf("the strip %d, %v, is valid", i, s)
		}
	}
}

var square = []api.XY{{}, {X: 4}, {X: 4, Y: 4}, {Y: 4}}

// round returns a ring of n corners.
func round(n int) []api.XY {
	var ring []api.XY
	for i := range n {
		ring = append(ring, api.XY{X: i, Y: i * i})
	}
	return ring
}

// badOrders are orders that are not valid, each by one field.
func badOrders() []api.Order {
	return []api.Order{
		{}, {Every: -1}, {Every: 1001}, {Every: math.MinInt},
		{Every: 1, Level: -1}, {Every: 1, Level: 13},
		{Every: 1, Ring: round(1)}, {Every: 1, Ring: round(2)}, {Every: 1, Ring: round(65)},
		{Every: 1, Ring: []api.XY{{}, {X: 4}, {X: limit + 1}}}, {Every: 1, Ring: []api.XY{{Y: -limit - 1}, {X: 4}, {Y: 4}}},
		{Every: 1, Classes: []int{-1}}, {Every: 1, Classes: []int{3, 256}}, {Every: 1, Classes: make([]int, 17)},
	}
}

// P10.1
func TestValidOrder(t *testing.T) {
	for _, o := range []api.Order{
		{Every: 1}, {Every: 1000}, {Every: 1, Level: 12}, {Every: 1, Ring: []api.XY{}, Classes: []int{}},
		{Every: 1, Ring: square}, {Every: 1, Ring: round(3)}, {Every: 1, Ring: round(64)}, {Every: 1, Ring: []api.XY{{X: -limit}, {X: limit}, {Y: limit}}},
		{Every: 1, Classes: []int{0, 255}}, {Every: 1, Classes: make([]int, 16)}, {Every: 2, Classes: []int{3}},
	} {
		if !plant.ValidOrder(o) {
			t.Errorf("%v is not valid", o)
		}
	}
	for _, o := range badOrders() {
		if plant.ValidOrder(o) {
			t.Errorf("%v is valid", o)
		}
	}
}

package plant

import (
	"slices"

	"lidar/api"
	"lidar/link"
	"lidar/track"
	"lidar/wave"
)

// streamsPerStrip is how many streams a strip has: one of pulses, and behind it one of navigation records.
const streamsPerStrip = 2

// decoder keeps what the records of a stream say.
type decoder interface {
	// decode keeps a record, and reports whether it could be read and there was room for it.
	decode(d api.Delivery) bool
	// copyTo gives a strip a copy of what is kept.
	copyTo(s *api.Strip)
}

// stream is a receiver, and what becomes of the records that it delivers.
type stream struct {
	*link.Receiver
	decoder
}

// streamsOf returns the streams of the strips of a valid configuration, in the order of their numbers.
func streamsOf(c api.Config) []stream {
	var list []stream
	for range c.Strips {
		for _, d := range [streamsPerStrip]decoder{&pulses{}, &navs{}} {
			r, _ := link.NewReceiver(len(list), c.Window, 0)
			list = append(list, stream{r, d})
		}
	}
	return list
}

// keep decodes deliveries. It returns how many of them are not lost, and how many of these are bad.
func (s stream) keep(deliveries []api.Delivery) (taken, bad int) {
	for _, d := range deliveries {
		if d.Lost {
			continue
		}
		taken++
		if !s.decode(d) {
			bad++
		}
	}
	return taken, bad
}

// pulses are the records of a scanner, in the order in which they were delivered, which is that of their numbers.
type pulses struct {
	list []api.Numbered
}

func (p *pulses) decode(d api.Delivery) bool {
	pulse, err := wave.Decode(d.Body)
	if err != api.OK || len(p.list) == api.MaxPulses {
		return false
	}
	p.list = append(p.list, api.Numbered{Seq: d.Seq, Pulse: pulse})
	return true
}

func (p *pulses) copyTo(s *api.Strip) {
	s.Pulses = slices.Clone(p.list)
	for i := range s.Pulses {
		pulse := &s.Pulses[i].Pulse
		pulse.Samples = slices.Clone(pulse.Samples)
	}
}

// navs are the records of a navigation unit, in the order in which they were delivered.
type navs struct {
	list []api.Nav
}

func (n *navs) decode(d api.Delivery) bool {
	nav, err := track.Decode(d.Body)
	if err != api.OK || len(n.list) == api.MaxFixes {
		return false
	}
	n.list = append(n.list, nav)
	return true
}

func (n *navs) copyTo(s *api.Strip) {
	s.Navs = slices.Clone(n.list)
}

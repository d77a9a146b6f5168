package plant_test

import (
	"math"
	"math/rand"
	"slices"
	"testing"

	"lidar/api"
	"lidar/link"
	"lidar/plant"
	"lidar/tile"
	"lidar/track"
	"lidar/wave"
)

// plainPlant takes frames as the chapter says, with receivers of layer 2.
type plainPlant struct {
	receivers []*link.Receiver
	strips    []api.Strip
}

func newPlainPlant(c api.Config) *plainPlant {
	p := &plainPlant{strips: make([]api.Strip, c.Strips)}
	for stream := range 2 * c.Strips {
		r, _ := link.NewReceiver(stream, c.Window, 0)
		p.receivers = append(p.receivers, r)
	}
	return p
}

// keep returns how many deliveries are not lost, and how many of these are bad.
func (p *plainPlant) keep(stream int, list []api.Delivery) (taken, bad int) {
	s := &p.strips[stream/2]
	for _, d := range list {
		if d.Lost {
			continue
		}
		taken++
		pulse, errPulse := wave.Decode(d.Body)
		nav, errNav := track.Decode(d.Body)
		switch {
		case stream%2 == 0 && errPulse == api.OK && len(s.Pulses) < 256:
			s.Pulses = append(s.Pulses, api.Numbered{Seq: d.Seq, Pulse: pulse})
		case stream%2 == 1 && errNav == api.OK && len(s.Navs) < 4096:
			s.Navs = append(s.Navs, nav)
		default:
			bad++
		}
	}
	return taken, bad
}

func (p *plainPlant) feed(datagram []byte) api.Intake {
	list, skipped, _ := link.Scan(datagram)
	in := api.Intake{Frames: len(list), Skipped: skipped}
	for _, f := range list {
		if f.Stream < len(p.receivers) {
			d, _ := p.receivers[f.Stream].Take(f)
			taken, bad := p.keep(f.Stream, d)
			in.Taken += taken
			in.Bad += bad
		}
	}
	return in
}

func (p *plainPlant) giveUp(stream, seq int) api.Errno {
	if stream < 0 || stream >= len(p.receivers) {
		return api.ErrStream
	}
	d, err := p.receivers[stream].GiveUp(seq)
	p.keep(stream, d)
	return err
}

// randomFrame is the next frame of a stream or one near it, for one of few streams, with a body that is sometimes bad.
func randomFrame(r *rand.Rand, next map[int]int) api.Frame {
	stream := r.Intn(6)
	f := api.Frame{Stream: stream, Seq: max(0, next[stream]+r.Intn(5)-2)}
	if r.Intn(3) > 0 {
		f.Seq = next[stream]
		next[stream]++
	}
	pulse, _ := wave.Encode(pulseAt(0, r.Intn(9000), echoes(r.Intn(9))).Pulse)
	fix, _ := track.Encode(fixAt(r.Intn(9000)))
	sync, _ := track.Encode(syncAt(r.Intn(9), r.Intn(9), 0))
	list := [][]byte{pulse, fix, sync, {}, {7}}
	f.Body = list[r.Intn(5)]
	if r.Intn(3) > 0 {
		f.Body = list[stream%2]
	}
	return f
}

// P10.11, P2: frames in any order, some of them again, of other streams, damaged and bad.
func TestFeed(t *testing.T) {
	r := rand.New(rand.NewSource(51))
	var sum api.Intake
	for range 200 {
		c := config(1 + r.Intn(3))
		c.Window = 1 + r.Intn(6)
		p, _ := newPlant(t, c)
		plain := newPlainPlant(c)
		next := map[int]int{}
		for range 60 {
			if r.Intn(8) == 0 {
				stream := r.Intn(8) - 1
				seq := next[stream] + r.Intn(4) - 2
				expect(t, "the error of GiveUp", p.GiveUp(stream, seq), plain.giveUp(stream, seq))
				continue
			}
			var datagram []byte
			for range r.Intn(4) {
				datagram = append(datagram, packed(randomFrame(r, next))...)
				switch r.Intn(6) {
				case 0:
					datagram = append(datagram, 0, 0xa5, 7)
				case 1:
					datagram[r.Intn(len(datagram))] ^= 1
				}
			}
			in := feed(t, p, datagram)
			expect(t, "the intake", in, plain.feed(datagram))
			sum = api.Intake{Frames: sum.Frames + in.Frames, Skipped: sum.Skipped + in.Skipped, Taken: sum.Taken + in.Taken, Bad: sum.Bad + in.Bad}
		}
		strips := p.Strips()
		expect(t, "the strips", strips, plain.strips)
		for _, s := range strips {
			if !plant.ValidStrip(s) || !slices.IsSortedFunc(s.Pulses, func(a, b api.Numbered) int { return a.Seq - b.Seq }) {
				t.Fatalf("the strip is %v", s)
			}
		}
	}
	if sum.Taken < 3000 || sum.Frames < sum.Taken*3/2 || sum.Bad < 400 || sum.Bad > sum.Taken/2 || sum.Skipped < 1000 {
		t.Errorf("all that came in is %v", sum)
	}
}

// P10.11: a datagram of several frames; what is held is taken when the missing record comes or is given up.
func TestFeedOrder(t *testing.T) {
	p, _ := newPlant(t, config(2))
	s := flight(rand.New(rand.NewSource(52)), 5)
	for i := range s.Pulses {
		s.Pulses[i].Seq = i
	}
	f := frames(1, s)
	expect(t, "the intake of nothing", feed(t, p, nil), api.Intake{})
	expect(t, "the intake of the record 1", feed(t, p, packed(f[1])), api.Intake{Frames: 1})
	expect(t, "the intake of the records 3, 1 and 0", feed(t, p, packed(f[3], f[1], f[0])), api.Intake{Frames: 3, Taken: 2})
	expect(t, "the strips", p.Strips(), []api.Strip{{}, {Pulses: s.Pulses[:2]}})
	giveUp(t, p, 2, 2)
	without := []api.Numbered{s.Pulses[0], s.Pulses[1], s.Pulses[3]}
	expect(t, "the strips", p.Strips(), []api.Strip{{}, {Pulses: without}})
	expect(t, "the intake of the record 2", feed(t, p, packed(f[2])), api.Intake{Frames: 1})
	half := packed(f[5])[:9]
	expect(t, "the intake of the other ones", feed(t, p, append(append([]byte{1, 2}, packed(f[5:]...)...), half...)), api.Intake{Frames: len(s.Navs), Skipped: 2, Taken: len(s.Navs)})
	expect(t, "the strips", p.Strips(), []api.Strip{{}, {Pulses: without, Navs: s.Navs}})
}

// P10.11: frames of streams that are no streams of the strips, the number of which is that of the configuration.
func TestOtherStreams(t *testing.T) {
	for _, strips := range []int{1, 8} {
		p, _ := newPlant(t, config(strips))
		for stream := range 256 {
			f := frames(0, single())[stream%2]
			f.Stream, f.Seq = stream, 0
			want := api.Intake{Frames: 1}
			if stream < 2*strips {
				want.Taken = 1
			}
			expect(t, "the intake", feed(t, p, packed(f)), want)
		}
		expect(t, "the strips", p.Strips(), slices.Repeat([]api.Strip{{Pulses: single().Pulses, Navs: single().Navs[:1]}}, strips))
	}
}

// P10.11: as many pulses and navigation records as there may be; what is lost or bad does not count.
func TestFullStrips(t *testing.T) {
	p, _ := newPlant(t, config(1))
	pulses, navs := manyPulses(300), manyNavs(4200)
	f := frames(0, api.Strip{Pulses: pulses})
	f[3].Body = []byte{1, 2, 3}
	giveUp(t, p, 0, 0)
	for i, x := range f[1:] {
		want := api.Intake{Frames: 1, Taken: 1}
		if i == 2 || i >= 257 {
			want.Bad = 1
		}
		expect(t, "the intake of a pulse", feed(t, p, packed(x)), want)
	}
	for i, x := range frames(0, api.Strip{Navs: navs}) {
		want := api.Intake{Frames: 1, Taken: 1}
		if i >= 4096 {
			want.Bad = 1
		}
		expect(t, "the intake of a navigation record", feed(t, p, packed(x)), want)
	}
	want := api.Strip{Pulses: append(pulses[1:3:3], pulses[4:258]...), Navs: navs[:4096]}
	expect(t, "the strip", p.Strips(), []api.Strip{want})
	if !plant.ValidStrip(want) {
		t.Error("the strip is not valid")
	}
}

// P10.11: errors of GiveUp in their order.
func TestGiveUpErrors(t *testing.T) {
	p, _ := newPlant(t, config(2))
	giveUp(t, p, 3, 0)
	giveUp(t, p, 3, 2)
	for _, c := range []struct {
		stream, seq int
		want        api.Errno
	}{
		{-1, 0, api.ErrStream}, {4, 0, api.ErrStream}, {255, 0, api.ErrStream}, {math.MinInt, 0, api.ErrStream}, {math.MaxInt, -1, api.ErrStream},
		{3, -1, api.ErrArg}, {3, 1 << 32, api.ErrArg}, {3, 0, api.ErrOld}, {3, 2, api.ErrTwice}, {3, 9, api.ErrFar}, {3, 8, api.OK}, {0, 8, api.ErrFar}, {0, 7, api.OK},
	} {
		if err := p.GiveUp(c.stream, c.seq); err != c.want {
			t.Errorf("GiveUp of stream %d, record %d: error %d, not %d", c.stream, c.seq, err, c.want)
		}
	}
}

// P10.10: errors in their order, and the plant of a new disk.
func TestNew(t *testing.T) {
	down, used, dead := tile.NewDisk(), tile.NewDisk(), &tile.Disk{}
	down.Crash([2]int{})
	a, _ := tile.Open(used, 5)
	a.Commit([]api.Point{point(1, 0, 0, 0, api.Ground)}, nil)
	check := func(c api.Config, d *tile.Disk, want api.Errno) {
		t.Helper()
		if p, err := plant.New(c, d); err != want || (p == nil) != (err != api.OK) {
			t.Errorf("New with %v: error %d, not %d", c, err, want)
		}
	}
	for _, d := range []*tile.Disk{nil, down, used, dead, tile.NewDisk()} {
		for _, c := range badConfigs() {
			check(c, d, api.ErrConfig)
		}
	}
	check(config(1), nil, api.ErrArg)
	check(config(1), dead, api.ErrArg)
	check(config(1), down, api.ErrDown)
	check(config(1), used, api.ErrCap)
	check(with(func(c *api.Config) { c.Cap = 5 }), used, api.OK)
	p, _ := newPlant(t, config(3))
	expect(t, "the strips of a new plant", p.Strips(), make([]api.Strip, 3))
	expect(t, "the points of a new plant", pointsOf(t, p, 0), []api.Point(nil))
	publish(t, p, 0)
}

// P10.10, P10.13: the archive of a disk that is not new.
func TestUsedDisk(t *testing.T) {
	first, d := newPlant(t, config(1))
	supply(t, first, 0, flight(rand.New(rand.NewSource(53)), 9))
	publish(t, first, 1)
	p, err := plant.New(config(2), d)
	if err != api.OK || p.Version() != 1 {
		t.Fatalf("New: error %d", err)
	}
	expect(t, "the points", pointsOf(t, p, 1), pointsOf(t, first, 1))
	expect(t, "the strips", p.Strips(), make([]api.Strip, 2))
	supply(t, p, 1, single())
	publish(t, p, 2)
	expect(t, "the points", pointsOf(t, p, 2), survey(t, []api.Strip{{}, single()}, nil, nil, config(2)))
	expect(t, "the points of version 1", pointsOf(t, p, 1), pointsOf(t, first, 1))
}

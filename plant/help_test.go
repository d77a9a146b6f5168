package plant_test

import (
	"cmp"
	"math/rand"
	"reflect"
	"slices"
	"testing"

	"lidar/api"
	"lidar/link"
	"lidar/plant"
	"lidar/tile"
	"lidar/track"
	"lidar/wave"
)

const limit = 1 << 28 // of coordinates and heights

// config is a valid configuration in whose surveys most last echoes become ground.
func config(strips int) api.Config {
	return api.Config{
		Strips: strips, Window: 8, Cap: 4, Limit: 1000000,
		Detector: api.Detector{Level: 5, Drop: 4, Step: 150, Delay: 98000},
		Motion:   api.Motion{Gap: 100000, Speed: 100000, Accel: 1000, Rate: 1000},
		Terrain:  api.Terrain{Cell: 400, Reach: 500, Slope: 20000, Link: 2000, Flat: 300, Tall: 700, High: 50000, Low: 5000, Brush: 600, Few: 3},
	}
}

// with is a valid configuration with a change.
func with(change func(c *api.Config)) api.Config {
	c := config(2)
	change(&c)
	return c
}

func fixAt(time int) api.Nav {
	return api.Nav{Fix: api.Fix{Time: time, Pos: [3]int{time / 10, 0, 100000}, Err: 2, Quat: [4]int{1000, 0, 0, 0}}}
}

func syncAt(scan, nav, err int) api.Nav {
	return api.Nav{IsSync: true, Sync: api.Sync{Scan: scan, Nav: nav, Err: err}}
}

// echoes returns samples with a peak behind each of these numbers of low ones.
func echoes(gaps ...int) []int {
	samples := []int{1}
	for _, n := range gaps {
		samples = append(samples, slices.Repeat([]int{1}, n)...)
		samples = append(samples, 9, 20, 9)
	}
	return append(samples, slices.Repeat([]int{1}, 3*len(gaps))...)
}

func pulseAt(seq, time int, samples []int) api.Numbered {
	return api.Numbered{Seq: seq, Pulse: api.Pulse{Time: time, Scan: [4]int{1000, 0, 0, 0}, Samples: samples}}
}

// single is a strip with one shot, whose Id is 1 in the strip 0.
func single() api.Strip {
	return api.Strip{Pulses: []api.Numbered{pulseAt(0, 500, echoes(3))}, Navs: []api.Nav{syncAt(0, 0, 0), fixAt(0), fixAt(1000)}}
}

// flight returns a strip of n pulses, with places on both sides of the way and one or a few echoes.
func flight(r *rand.Rand, n int) api.Strip {
	s := api.Strip{Navs: []api.Nav{syncAt(0, 50, 1)}}
	for i := range n + 2 {
		s.Navs = append(s.Navs, fixAt(i*1000))
	}
	for i := range n {
		gaps := []int{2 + r.Intn(6)}
		for r.Intn(3) == 0 && len(gaps) < 4 {
			gaps = append(gaps, 1+r.Intn(8))
		}
		p := pulseAt(2*i+r.Intn(2), 500+i*1000, echoes(gaps...))
		p.Pulse.Scan = [4]int{1000, r.Intn(21) - 10, r.Intn(21) - 10, 0}
		s.Pulses = append(s.Pulses, p)
	}
	return s
}

// messy returns a strip in which some returns have no box: there are times without a track or with several clocks, fixes that contradict each other, and pulses in any order.
func messy(r *rand.Rand, n int) api.Strip {
	s := flight(r, n)
	s.Navs = slices.DeleteFunc(s.Navs, func(api.Nav) bool { return r.Intn(20) == 0 })
	for range r.Intn(4) {
		far := fixAt(1000 * r.Intn(n))
		far.Fix.Pos[r.Intn(3)] += 5000
		s.Navs = append(s.Navs, far)
	}
	for range r.Intn(3) {
		s.Navs = append(s.Navs, syncAt(1000*r.Intn(n), 1000*r.Intn(n), r.Intn(2000)))
	}
	s.Navs, s.Pulses = shuffled(r, s.Navs), shuffled(r, s.Pulses)
	return s
}

func shuffled[T any](r *rand.Rand, list []T) []T {
	list = slices.Clone(list)
	r.Shuffle(len(list), func(i, j int) { list[i], list[j] = list[j], list[i] })
	return list
}

// frames returns the frames of a strip's data: its pulses with their numbers, its navigation records from 0 on.
func frames(strip int, s api.Strip) []api.Frame {
	var list []api.Frame
	for _, p := range s.Pulses {
		b, _ := wave.Encode(p.Pulse)
		list = append(list, api.Frame{Stream: 2 * strip, Seq: p.Seq, Body: b})
	}
	for i, n := range s.Navs {
		b, _ := track.Encode(n)
		list = append(list, api.Frame{Stream: 2*strip + 1, Seq: i, Body: b})
	}
	return list
}

// packed returns a datagram of frames.
func packed(list ...api.Frame) []byte {
	var out []byte
	for _, f := range list {
		b, _ := link.Pack(f)
		out = append(out, b...)
	}
	return out
}

// newPlant returns a plant on a new disk.
func newPlant(t *testing.T, c api.Config) (*plant.Plant, *tile.Disk) {
	t.Helper()
	d := tile.NewDisk()
	p, err := plant.New(c, d)
	if err != api.OK || p == nil {
		t.Fatalf("New with %v: error %d", c, err)
	}
	return p, d
}

// feed gives a datagram to a plant, which takes all of it.
func feed(t *testing.T, p *plant.Plant, datagram []byte) api.Intake {
	t.Helper()
	in, err := p.Feed(datagram)
	if err != api.OK {
		t.Fatalf("Feed: error %d", err)
	}
	return in
}

// supply gives all data of a strip to a plant; records that are missing between those of the strip are given up.
func supply(t *testing.T, p *plant.Plant, strip int, s api.Strip) {
	t.Helper()
	next := map[int]int{}
	for _, f := range frames(strip, s) {
		for ; next[f.Stream] < f.Seq; next[f.Stream]++ {
			giveUp(t, p, f.Stream, next[f.Stream])
		}
		next[f.Stream]++
		if in := feed(t, p, packed(f)); in != (api.Intake{Frames: 1, Taken: 1}) {
			t.Fatalf("Feed of one frame: %v", in)
		}
	}
}

func giveUp(t *testing.T, p *plant.Plant, stream, seq int) {
	t.Helper()
	if err := p.GiveUp(stream, seq); err != api.OK {
		t.Fatalf("GiveUp of stream %d, record %d: error %d", stream, seq, err)
	}
}

func publish(t *testing.T, p *plant.Plant, want int) {
	t.Helper()
	if v, err := p.Publish(); v != want || err != api.OK || p.Version() != want {
		t.Fatalf("Publish: version %d, error %d, not %d; Version: %d", v, err, want, p.Version())
	}
}

func pointsOf(t *testing.T, p *plant.Plant, version int) []api.Point {
	t.Helper()
	points, err := p.Points(version)
	if err != api.OK {
		t.Fatalf("Points of version %d: error %d", version, err)
	}
	return points
}

func survey(t *testing.T, strips []api.Strip, matches []api.Match, edits []api.Edit, c api.Config) []api.Point {
	t.Helper()
	points, err := plant.Survey(strips, matches, edits, c)
	if err != api.OK {
		t.Fatalf("Survey: error %d", err)
	}
	return points
}

func shotsOf(t *testing.T, strip int, s api.Strip, c api.Config) ([]api.Shot, int) {
	t.Helper()
	shots, none, err := plant.Shots(strip, s, c)
	if err != api.OK {
		t.Fatalf("Shots: error %d", err)
	}
	return shots, none
}

// lift is a match that raises a strip.
func lift(strip, by int) api.Match {
	return api.Match{A: strip, B: -1, Normal: [3]int{0, 0, 1}, D: -by, W: 1}
}

func point(id, x, y, z, class int) api.Point {
	return api.Point{Id: id, X: x, Y: y, Z: api.Span{Lo: z, Hi: z}, Num: 1, Of: 1, Class: class}
}

// randomPoints returns n points with different Ids, small or large, and any classes that can be stored.
func randomPoints(r *rand.Rand, n int) []api.Point {
	var points []api.Point
	for i, id := range r.Perm(2*n + 3)[:n] {
		if i%3 == 2 {
			id = api.MaxId - id
		}
		side := []int{3, 1000, limit}[r.Intn(3)]
		p := point(id, r.Intn(2*side+1)-side, r.Intn(2*side+1)-side, r.Intn(2*side+1)-side, r.Intn(256)>>r.Intn(8))
		p.Z.Hi = min(limit, p.Z.Hi+r.Intn(side))
		p.Wide = r.Intn(side + 1)
		p.Of = 1 + r.Intn(api.MaxEchoes)
		p.Num = 1 + r.Intn(p.Of)
		points = append(points, p)
	}
	return points
}

func sortedById(points []api.Point) []api.Point {
	return slices.SortedFunc(slices.Values(points), func(p, q api.Point) int { return cmp.Compare(p.Id, q.Id) })
}

func idsOf(points []api.Point) []int {
	var ids []int
	for _, p := range points {
		ids = append(ids, p.Id)
	}
	return ids
}

// badPoints are lists of points that are not valid, whatever their classes are.
func badPoints() [][]api.Point {
	many := make([]api.Point, api.MaxPoints+1)
	for i := range many {
		many[i] = point(i, 0, 0, 0, 0)
	}
	lists := [][]api.Point{many, {point(1, 0, 0, 0, 0), point(2, 0, 0, 0, 0), point(1, 9, 9, 9, 1)}}
	for _, spoil := range []func(p *api.Point){
		func(p *api.Point) { p.Id = -1 },
		func(p *api.Point) { p.Id = api.MaxId + 1 },
		func(p *api.Point) { p.X = limit + 1 },
		func(p *api.Point) { p.Y = -limit - 1 },
		func(p *api.Point) { p.Z.Lo = -limit - 1 },
		func(p *api.Point) { p.Z.Hi = limit + 1 },
		func(p *api.Point) { p.Z = api.Span{Lo: 1} },
		func(p *api.Point) { p.Wide = -1 },
		func(p *api.Point) { p.Wide = limit + 1 },
		func(p *api.Point) { p.Num = 0 },
		func(p *api.Point) { p.Num = 2 },
		func(p *api.Point) { p.Num, p.Of = 1, 16 },
	} {
		p := point(5, 0, 0, 0, api.Ground)
		spoil(&p)
		lists = append(lists, []api.Point{point(1, 7, 0, 0, api.Ground), p})
	}
	return lists
}

// same reports whether two results are equal, where an empty list and none are the same.
func same(a, b any) bool {
	return sameValue(reflect.ValueOf(a), reflect.ValueOf(b))
}

func sameValue(a, b reflect.Value) bool {
	if a.Type() != b.Type() {
		return false
	}
	switch a.Kind() {
	case reflect.Slice, reflect.Array:
		if a.Len() != b.Len() {
			return false
		}
		for i := range a.Len() {
			if !sameValue(a.Index(i), b.Index(i)) {
				return false
			}
		}
		return true
	case reflect.Struct:
		for i := range a.NumField() {
			if !sameValue(a.Field(i), b.Field(i)) {
				return false
			}
		}
		return true
	}
	return a.Equal(b)
}

// expect fails if a result is not what it should be.
func expect(t *testing.T, what string, got, want any) {
	t.Helper()
	if !same(got, want) {
		t.Fatalf("%s: %v, not %v", what, got, want)
	}
}

package plant_test

import (
	"math"
	"math/rand"
	"slices"
	"testing"

	"lidar/api"
	"lidar/link"
	"lidar/plant"
	"lidar/tile"
)

func play(t *testing.T, c api.Config, events []api.Event) []api.Answer {
	t.Helper()
	answers, err := plant.Play(c, events)
	if err != api.OK || len(answers) != len(events) {
		t.Fatalf("Play of %d events: %d answers, error %d", len(events), len(answers), err)
	}
	return answers
}

// plainPlay carries out the events with a plant and a disk of its own.
func plainPlay(t *testing.T, c api.Config, events []api.Event) []api.Answer {
	p, d := newPlant(t, c)
	var answers []api.Answer
	for _, e := range events {
		var a api.Answer
		switch e.Kind {
		case 1:
			in, err := p.Feed(e.Bytes)
			a = api.Answer{Err: err, N: in.Taken}
		case 2:
			a.Err = p.GiveUp(e.A, e.B)
		case 3:
			a.Err = p.Tie(e.Match)
		case 4:
			a.Err = p.Correct(e.Edit)
		case 5:
			a.N, a.Err = p.Publish()
		case 6:
			d.Arm(e.A)
		case 7:
			d.Crash(e.Keep)
			d.Start()
			a.Err = p.Reopen()
			a.N = p.Version()
		case 8:
			a.Bytes, a.Err = p.Order(e.A, e.Order)
		case 9:
			a.Err = p.Break(e.A, e.B)
		default:
			a.Err = api.ErrArg
		}
		answers = append(answers, a)
	}
	return answers
}

// randomEvent is an event of any kind, in which all fields may be set.
func randomEvent(r *rand.Rand, next map[int]int) api.Event {
	e := api.Event{Kind: 1 + r.Intn(9), A: r.Intn(6) - 1, B: r.Intn(9) - 1, Keep: [2]int{r.Intn(99) - 9, r.Intn(99) - 9}}
	if r.Intn(2) == 0 {
		e.Kind = []int{1, 1, 1, 5, 8, -1, 0, 10, math.MaxInt}[r.Intn(9)]
	}
	for range r.Intn(4) {
		e.Bytes = append(e.Bytes, packed(randomFrame(r, next))...)
	}
	e.Match = api.Match{A: r.Intn(3), B: -1, Normal: [3]int{0, 0, 1}, D: r.Intn(300), W: 1}
	e.Edit = api.Edit{Id: 1 + 16*r.Intn(20), To: 1 + r.Intn(2)}
	e.Order = randomOrder(r)
	return e
}

// P10.16: each event has the answer of the call that it stands for.
func TestPlay(t *testing.T) {
	r := rand.New(rand.NewSource(71))
	good, bad := map[int]int{}, map[int]int{}
	for range 120 {
		c, next := config(2), map[int]int{}
		var events []api.Event
		for i, f := range frames(r.Intn(2), flight(r, 6)) {
			f.Seq = i % 6
			events = append(events, api.Event{Kind: 1, Bytes: packed(f)})
		}
		for range r.Intn(60) {
			events = append(events, randomEvent(r, next))
		}
		answers := play(t, c, events)
		for i, want := range plainPlay(t, c, events) {
			if !same(answers[i], want) {
				t.Fatalf("the answer to the event %d, %v, is %v, not %v", i, events[i], answers[i], want)
			}
			if want.Err == api.OK {
				good[events[i].Kind]++
			} else {
				bad[events[i].Kind]++
			}
		}
	}
	for _, kind := range []int{1, 2, 3, 4, 5, 6, 7, 8, 9} {
		if good[kind] < 50 || bad[kind] < 5 && slices.Contains([]int{2, 3, 5, 8, 9}, kind) {
			t.Errorf("events of the kind %d: %d without an error, %d with one", kind, good[kind], bad[kind])
		}
	}
}

// P10.16: the examples, events that are not known, and what is not named in an answer.
func TestPlayExamples(t *testing.T) {
	play(t, config(1), nil)
	full := api.Event{A: 1, B: 2, Bytes: packed(frames(0, single())...), Match: lift(0, 1), Edit: api.Edit{Id: 1, To: 2}, Order: api.Order{Every: 1}}
	of := func(kind int) api.Event {
		e := full
		e.Kind = kind
		return e
	}
	expect(t, "the answer to Publish without data", play(t, config(1), []api.Event{of(5)}), []api.Answer{{}})
	expect(t, "the answers", play(t, config(1), []api.Event{of(0), of(10), of(-1), of(5)}), []api.Answer{{Err: 2}, {Err: 2}, {Err: 2}, {}})
	answers := play(t, config(1), []api.Event{of(1), of(6), of(5), of(7)})
	expect(t, "the answers", answers[:3], []api.Answer{{N: 4}, {}, {Err: api.ErrDown}})
	if last := answers[3]; last.Err != api.OK || last.N < 0 || last.N > 1 || len(last.Bytes) > 0 {
		t.Errorf("the answer to EventCrash: %v", last)
	}
	expect(t, "the answers", play(t, config(1), []api.Event{of(1), of(3), of(4), of(9), of(2), of(5), of(5), of(7)}), []api.Answer{{N: 4}, {}, {}, {}, {Err: api.ErrOld}, {N: 1}, {N: 1}, {N: 1}})
	b := play(t, config(1), []api.Event{of(1), of(5), of(8)})[2]
	if b.Err != api.OK || b.N != 0 || len(receive(t, b.Bytes)) != 1 {
		t.Errorf("the answer to EventOrder: %v", b)
	}
}

// P10.16, P10.19: what is kept of each file when the power is lost at each operation of a Publish.
func TestPlayCrashes(t *testing.T) {
	data := api.Event{Kind: 1, Bytes: packed(frames(0, single())...)}
	edit := api.Event{Kind: 4, Edit: api.Edit{Id: 1, To: api.Roof}}
	for n := range 8 {
		for _, keep := range [][2]int{{}, {5, 5}, {1000, 0}, {0, 1000}, {1000, 1000}, {-1, 30}} {
			arm, crash := api.Event{Kind: 6, A: n, B: 1}, api.Event{Kind: 7, Keep: keep}
			events := []api.Event{data, arm, {Kind: 5}, crash, {Kind: 5}, edit, arm, {Kind: 5}, crash, {Kind: 5}, {Kind: 8, A: 2, Order: api.Order{Every: 1}}}
			answers := play(t, config(1), events)
			expect(t, "the answers", answers, plainPlay(t, config(1), events))
			points := receive(t, answers[10].Bytes)
			if len(points) != 1 || points[0].Class != api.Roof {
				t.Errorf("the points are %v", points)
			}
		}
	}
}

// P10.16: two plays have nothing in common.
func TestPlayAgain(t *testing.T) {
	events := []api.Event{{Kind: 1, Bytes: packed(frames(0, single())...)}, {Kind: 5}, {Kind: 8, A: 1, Order: api.Order{Every: 1}}}
	first := play(t, config(1), events)
	expect(t, "the answers of the same events", play(t, config(1), events), first)
}

// P10.16: errors in their order, and as many events as there may be.
func TestPlayErrors(t *testing.T) {
	for _, n := range []int{0, 256, 257, 1000} {
		events := make([]api.Event, n)
		for _, c := range badConfigs() {
			if answers, err := plant.Play(c, events); err != api.ErrConfig || len(answers) > 0 {
				t.Errorf("Play with %v: %v, error %d", c, answers, err)
			}
		}
		if n <= 256 {
			play(t, config(1), events)
		} else if answers, err := plant.Play(config(1), events); err != api.ErrArg || len(answers) > 0 {
			t.Errorf("Play of %d events: %d answers, error %d", n, len(answers), err)
		}
	}
}

// P10.19, P6: the power is lost at any operation of any Publish, and with any bytes kept: no version is lost, and the next Publish leads to the same points.
func TestCrashes(t *testing.T) {
	r := rand.New(rand.NewSource(72))
	for n := range 10 {
		for range 40 {
			p, d := newPlant(t, config(1))
			supply(t, p, 0, flight(r, 4))
			before := r.Intn(3)
			for i := range before {
				correct(t, p, api.Edit{Id: 1 + 16*i, To: []int{api.Roof, api.Noise}[r.Intn(2)]})
				tie(t, p, lift(0, 9*i))
				publish(t, p, i+1)
			}
			tie(t, p, lift(0, 77))
			want := survey(t, p.Strips(), slices.Concat(lifts(before), []api.Match{lift(0, 77)}), nil, config(1))
			d.Arm(n)
			version, err := p.Publish()
			lost := err == api.ErrDown
			if !lost && (err != api.OK || version != before+1) {
				t.Fatalf("Publish: version %d, error %d", version, err)
			}
			old := p.Version()
			d.Crash([2]int{r.Intn(400) - 50, r.Intn(400) - 50})
			d.Start()
			if err := p.Reopen(); err != api.OK {
				t.Fatalf("Reopen: error %d", err)
			}
			if now := p.Version(); now != old && !(lost && now == old+1) {
				t.Fatalf("the version %d has become %d", old, now)
			}
			publish(t, p, before+1)
			if got := heights(pointsOf(t, p, before+1)); !same(got, heights(want)) {
				t.Fatalf("the heights are %v, not %v", got, heights(want))
			}
		}
	}
}

func lifts(n int) []api.Match {
	var list []api.Match
	for i := range n {
		list = append(list, lift(0, 9*i))
	}
	return list
}

func heights(points []api.Point) []api.Span {
	var list []api.Span
	for _, p := range points {
		list = append(list, p.Z)
	}
	return list
}

// transfer gives the frames of streams, but for those that are lost, to a plant over links with faults, in any order and mixture.
func transfer(t *testing.T, r *rand.Rand, p *plant.Plant, streams [][]api.Frame, lost map[[2]int]bool, between func()) {
	t.Helper()
	next := make([]int, len(streams))
	for {
		var open []int
		for i, list := range streams {
			if next[i] < len(list) {
				open = append(open, i)
			}
		}
		if len(open) == 0 {
			return
		}
		i := open[r.Intn(len(open))]
		list := streams[i][next[i]:]
		if lost[[2]int{i, next[i]}] {
			before := size(p, i)
			giveUp(t, p, i, next[i])
			next[i] += 1 + size(p, i) - before
			continue
		}
		var datagrams [][]byte
		for _, f := range list[:min(len(list), 1+r.Intn(9))] {
			if !lost[[2]int{i, f.Seq}] {
				datagrams = append(datagrams, packed(f))
			}
		}
		var faults []api.Fault
		for range r.Intn(4) {
			faults = append(faults, api.Fault{Kind: 1 + r.Intn(5), At: r.Intn(len(datagrams)), N: r.Intn(90)})
		}
		for _, b := range link.Carry(datagrams, faults) {
			next[i] += feed(t, p, b).Taken
		}
		between()
	}
}

// size returns how many records of a stream a plant has.
func size(p *plant.Plant, stream int) int {
	s := p.Strips()[stream/2]
	if stream%2 == 0 {
		return len(s.Pulses)
	}
	return len(s.Navs)
}

// P10.18, P5, P2: the same records lead to the same points, whatever the datagrams, faults, crashes and the order of the matches were.
func TestAllAtOnce(t *testing.T) {
	r := rand.New(rand.NewSource(73))
	for range 12 {
		c := config(2)
		c.Limit = 40000
		streams, lost := make([][]api.Frame, 4), map[[2]int]bool{}
		for strip := range 2 {
			s := flight(r, 12)
			for i := range s.Pulses {
				s.Pulses[i].Seq = i
			}
			for _, f := range frames(strip, s) {
				streams[f.Stream] = append(streams[f.Stream], f)
				lost[[2]int{f.Stream, f.Seq}] = r.Intn(12) == 0
			}
		}
		matches, edits := []api.Match{lift(0, 50), lift(1, 70), lift(1, 400), {A: 0, B: 1, Normal: [3]int{1, 2, 3}, D: 90, W: 2}}, []api.Edit{{Id: 17, To: api.Noise}, {Ring: square, From: -1, To: api.Other}}
		var first []api.Point
		for i := range 4 {
			points := pointsAtLast(t, r, c, streams, lost, shuffled(r, matches), edits)
			if i == 0 {
				first = points
			}
			expect(t, "the points", points, first)
		}
		if len(first) < 10 {
			t.Errorf("there are only %d points", len(first))
		}
	}
}

// pointsAtLast returns what a plant publishes when all has come, with other versions and crashes in between.
func pointsAtLast(t *testing.T, r *rand.Rand, c api.Config, streams [][]api.Frame, lost map[[2]int]bool, matches []api.Match, edits []api.Edit) []api.Point {
	t.Helper()
	p, d := newPlant(t, c)
	between := func() {
		switch r.Intn(12) {
		case 0:
			if len(matches) > 0 {
				tie(t, p, matches[0])
				matches = matches[1:]
			}
		case 1:
			if len(edits) > 0 {
				correct(t, p, edits[0])
				edits = edits[1:]
			}
		case 2:
			p.Publish()
		case 3:
			d.Arm(r.Intn(6))
		case 4:
			d.Crash([2]int{r.Intn(99), r.Intn(99)})
			d.Start()
			if err := p.Reopen(); err != api.OK {
				t.Fatalf("Reopen: error %d", err)
			}
		}
	}
	transfer(t, r, p, streams, lost, between)
	for len(matches)+len(edits) > 0 {
		between()
	}
	d.Crash([2]int{})
	d.Start()
	p.Reopen()
	version, err := p.Publish()
	if err != api.OK {
		t.Fatalf("Publish: error %d", err)
	}
	return pointsOf(t, p, version)
}

// R7, P10.10 to P10.15: plants that are nil or zero values.
func TestNoPlant(t *testing.T) {
	for _, p := range []*plant.Plant{nil, {}} {
		in, err := p.Feed(packed(frames(0, single())...))
		expect(t, "Feed", []any{in, err}, []any{api.Intake{}, api.ErrArg})
		for name, err := range map[string]api.Errno{
			"GiveUp": p.GiveUp(0, 0), "GiveUp of no stream": p.GiveUp(-1, 0), "Tie": p.Tie(lift(0, 0)), "Tie of no match": p.Tie(api.Match{}),
			"Correct": p.Correct(api.Edit{}), "Correct with no edit": p.Correct(api.Edit{To: 3}), "Break": p.Break(1, 2), "Reopen": p.Reopen(),
		} {
			expect(t, name, err, api.ErrArg)
		}
		expect(t, "Strips and Version", []any{len(p.Strips()), p.Version()}, []any{0, 0})
		version, err := p.Publish()
		expect(t, "Publish", []any{version, err}, []any{0, api.ErrArg})
		points, err := p.Points(0)
		expect(t, "Points", []any{len(points), err}, []any{0, api.ErrArg})
		for _, o := range []api.Order{{Every: 1}, {}} {
			b, err := p.Order(0, o)
			expect(t, "Order", []any{len(b), err}, []any{0, api.ErrArg})
		}
		stops, err := p.Profile(0, api.XY{}, api.XY{})
		expect(t, "Profile", []any{len(stops), err}, []any{0, api.ErrArg})
		keys, err := p.Changes(0, 0)
		expect(t, "Changes", []any{len(keys), err}, []any{0, api.ErrArg})
		regions, err := p.Change(0, 0, api.Raster{}, 0, 0)
		expect(t, "Change", []any{len(regions), err}, []any{0, api.ErrArg})
	}
}

// P10.19: a crash with nothing under way.
func TestCrashBetween(t *testing.T) {
	d := tile.NewDisk()
	p, err := plant.New(config(1), d)
	if err != api.OK {
		t.Fatal(err)
	}
	for version := range 3 {
		d.Crash([2]int{})
		d.Start()
		expect(t, "the error of Reopen", p.Reopen(), api.OK)
		expect(t, "the version", p.Version(), version)
		s := single()
		s.Pulses[0].Seq = version
		feed(t, p, packed(frames(0, s)...))
		tie(t, p, lift(0, version))
		publish(t, p, version+1)
	}
}

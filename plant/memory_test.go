package plant_test

import (
	"math/rand"
	"slices"
	"testing"

	"lidar/api"
	"lidar/plant"
)

// behind returns a list with more in the memory behind it, and all of it.
func behind[T any](list []T, more ...T) (short, all []T) {
	all = append(slices.Clip(list), more...)
	return all[:len(list)], all
}

// input are arguments of all functions.
type input struct {
	strip   api.Strip
	shots   []api.Shot
	shifts  [][3]api.Rat
	points  []api.Point
	matches []api.Match
	edits   []api.Edit
	tiles   []api.Tile
	order   api.Order
	breaks  [][2]int
	bytes   []byte
	events  []api.Event
}

func newInput(t *testing.T) input {
	r := rand.New(rand.NewSource(81))
	in := input{strip: flight(r, 8), shifts: [][3]api.Rat{{ratio(1, 3), ratio(-7, 2), ratio(5, 1)}}}
	slices.Reverse(in.strip.Pulses)
	in.shots, _ = shotsOf(t, 0, in.strip, config(1))
	slices.Reverse(in.shots)
	in.points = shuffled(r, survey(t, []api.Strip{in.strip}, nil, nil, config(1)))
	ground := slices.DeleteFunc(slices.Clone(in.points), func(p api.Point) bool { return p.Class != api.Ground })
	in.matches = []api.Match{lift(0, 3), lift(0, 4)}
	in.edits = []api.Edit{{Ring: slices.Clone(square), From: -1, To: api.Roof}}
	in.tiles = layout(t, in.points, 3)
	in.order = api.Order{Level: 12, Every: 1, Ring: []api.XY{{X: -9999, Y: -9999}, {X: 9999, Y: -9999}, {Y: 9999}}, Classes: []int{7, 5, 2, 1}}
	in.breaks = [][2]int{{ground[0].Id, ground[1].Id}, {ground[2].Id, ground[3].Id}}
	in.bytes = ship(t, in.points)
	in.events = []api.Event{{Kind: 1, Bytes: packed(frames(0, single())...)}, {Kind: 4, Edit: in.edits[0]}, {Kind: 5}, {Kind: 8, A: 1, Order: in.order}}
	return in
}

// spread lets each list have something behind its end.
func (in *input) spread() {
	in.strip.Pulses, _ = behind(in.strip.Pulses, api.Numbered{Seq: -1})
	in.strip.Navs, _ = behind(in.strip.Navs, api.Nav{})
	in.shots, _ = behind(in.shots, api.Shot{})
	in.shifts, _ = behind(in.shifts, [3]api.Rat{})
	in.points, _ = behind(in.points, api.Point{})
	in.matches, _ = behind(in.matches, api.Match{})
	in.edits, _ = behind(in.edits, api.Edit{To: -1})
	in.tiles, _ = behind(in.tiles, api.Tile{})
	in.order.Ring, _ = behind(in.order.Ring, api.XY{})
	in.order.Classes, _ = behind(in.order.Classes, -1)
	in.breaks, _ = behind(in.breaks, [2]int{})
	in.bytes, _ = behind(in.bytes, 7)
	in.events, _ = behind(in.events, api.Event{})
}

// whole returns all of a list's memory.
func whole[T any](list []T) []T {
	return list[:cap(list)]
}

func (in input) memory() []any {
	return []any{
		whole(in.strip.Pulses), whole(in.strip.Navs), whole(in.shots), whole(in.shifts), whole(in.points), whole(in.matches), whole(in.edits),
		whole(in.tiles), whole(in.order.Ring), whole(in.order.Classes), whole(in.breaks), whole(in.bytes), whole(in.events),
	}
}

// call calls everything, and returns all results.
func (in input) call(t *testing.T) []any {
	c := config(1)
	path, clocks, issues, _ := plant.Trace(in.strip, c)
	shots, none, _ := plant.Shots(0, in.strip, c)
	points, some, _ := plant.Settle(in.shots, in.shifts)
	all, _ := plant.Survey([]api.Strip{in.strip}, in.matches, in.edits, c)
	add, remove, _ := plant.Difference(in.points, points)
	selected, _ := plant.Select(in.tiles, in.order)
	b, _ := plant.Ship(in.points)
	received, _ := plant.Receive(in.bytes)
	m, _ := plant.Relief(in.points, in.breaks)
	p, _ := newPlant(t, c)
	feed(t, p, packed(frames(0, single())...))
	for _, e := range in.edits {
		correct(t, p, e)
	}
	p.Publish()
	order, _ := p.Order(1, in.order)
	answers, _ := plant.Play(c, in.events)
	if len(all)*len(add)*len(remove)*len(selected)*len(received)*len(m.Lines)*len(order)*len(answers[3].Bytes) == 0 {
		t.Fatal("a result is empty")
	}
	return []any{path, clocks, issues, shots, none, points, some, all, add, remove, selected, b, received, m, order, answers}
}

func sameList(a, b []any) bool {
	return slices.EqualFunc(a, b, same)
}

// R4: arguments stay as they are, what lies behind their ends is neither read nor written, and results are no part of them.
func TestArgumentsStay(t *testing.T) {
	in, kept := newInput(t), newInput(t)
	want := in.call(t)
	in.spread()
	kept.spread()
	got := in.call(t)
	if !sameList(in.memory(), kept.memory()) {
		t.Fatal("an argument has changed")
	}
	if !sameList(got, want) {
		t.Fatal("what lies behind an argument plays a part")
	}
	for i := range in.strip.Pulses {
		clear(in.strip.Pulses[i].Pulse.Samples)
	}
	for _, list := range in.tiles {
		clear(list.Points)
	}
	for _, e := range in.events {
		clear(e.Bytes)
	}
	clear(in.strip.Navs)
	clear(in.shots)
	clear(in.points)
	clear(in.edits[0].Ring)
	clear(in.bytes)
	clear(in.breaks)
	if !sameList(got, want) {
		t.Fatal("a result has changed with an argument")
	}
}

// R4: a plant keeps copies.
func TestPlantKeepsCopies(t *testing.T) {
	s := flight(rand.New(rand.NewSource(82)), 8)
	p, _ := newPlant(t, config(1))
	for i, f := range frames(0, s) {
		if i < len(s.Pulses) {
			f.Seq = i
		}
		b := packed(f)
		feed(t, p, b)
		clear(b)
	}
	want := p.Strips()
	first := survey(t, want, nil, nil, config(1))[0]
	ring := []api.XY{{X: first.X - 1, Y: first.Y - 1}, {X: first.X + 1, Y: first.Y - 1}, {X: first.X, Y: first.Y + 1}}
	correct(t, p, api.Edit{Ring: ring, From: -1, To: api.Raw})
	clear(ring)
	publish(t, p, 1)
	points := pointsOf(t, p, 1)
	if points[0].Class != api.Raw {
		t.Error("the ring of an edit has changed")
	}
	clear(whole(points))
	if pointsOf(t, p, 1)[0].Id != first.Id {
		t.Error("the points of a version have changed")
	}
}

// R4: what a plant hands on are copies.
func TestPlantHandsOnCopies(t *testing.T) {
	s := single()
	p, _ := newPlant(t, config(2))
	supply(t, p, 0, s)
	strips := p.Strips()
	clear(whole(strips[0].Pulses[0].Pulse.Samples))
	clear(whole(strips[0].Pulses))
	clear(whole(strips[0].Navs))
	clear(strips)
	expect(t, "the strips", p.Strips(), []api.Strip{s, {}})
	publish(t, p, 1)
}

// R4, P10.9: a mesh that was handed on is no part of the next one.
func TestReliefIsNew(t *testing.T) {
	breaks := [][2]int{{10, 13}, {10, 11}}
	first := relief(t, grid(2, 2), breaks)
	kept := relief(t, grid(2, 2), breaks)
	clear(whole(first.V))
	clear(whole(first.T))
	clear(whole(first.Lines))
	expect(t, "the relief", relief(t, grid(2, 2), breaks), kept)
}

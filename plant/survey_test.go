package plant_test

import (
	"math/rand"
	"slices"
	"testing"

	"lidar/api"
	"lidar/label"
	"lidar/plant"
	"lidar/strip"
	"lidar/tile"
)

// plainSurvey asks the layers for what the chapter says.
func plainSurvey(strips []api.Strip, matches []api.Match, edits []api.Edit, c api.Config) []api.Point {
	shifts, _, _ := strip.Adjust(api.Problem{Strips: len(strips), Matches: matches}, c.Limit)
	var shots []api.Shot
	for i, s := range strips {
		more, _ := plainShots(i, s, c)
		shots = append(shots, more...)
	}
	points, _ := plainSettle(shots, shifts)
	points, _ = label.Label(points, c.Terrain, edits)
	return points
}

func randomMatches(r *rand.Rand, strips int) []api.Match {
	var list []api.Match
	for range r.Intn(5) {
		m := api.Match{A: r.Intn(strips), B: r.Intn(strips+1) - 1, Normal: [3]int{r.Intn(5) - 2, r.Intn(5) - 2, 1}, D: r.Intn(3000) - 1500, W: 1 + r.Intn(3)}
		if m.A != m.B {
			list = append(list, m)
		}
	}
	return list
}

// randomEdits are edits of points, some of which there may be, and of rings around some of them.
func randomEdits(r *rand.Rand, points []api.Point) []api.Edit {
	classes := []int{api.Raw, api.Other, api.Ground, api.Plant, api.Roof, api.Noise}
	var list []api.Edit
	for range r.Intn(6) {
		e := api.Edit{Id: r.Intn(9), To: classes[r.Intn(6)]}
		if len(points) > 0 {
			p := points[r.Intn(len(points))]
			e.Id = p.Id
			if r.Intn(2) == 0 {
				e.Ring = []api.XY{{X: p.X - 900, Y: p.Y - 300}, {X: p.X + 900, Y: p.Y}, {X: p.X, Y: p.Y + 900}}
				e.From = []int{-1, api.Ground, api.Roof}[r.Intn(3)]
			}
		}
		list = append(list, e)
	}
	return list
}

func messyStrips(r *rand.Rand, n int) []api.Strip {
	var strips []api.Strip
	for range n {
		strips = append(strips, messy(r, 2+r.Intn(12)))
	}
	return strips
}

// P10.5, P10.17, P10.18: the points are those of the chapter, have the Ids of shots, once each, and do not depend on the order of the matches.
func TestSurvey(t *testing.T) {
	r := rand.New(rand.NewSource(21))
	count := map[int]int{}
	for range 100 {
		c := config(1 + r.Intn(4))
		if r.Intn(2) == 0 {
			c.Limit = 1000
		}
		strips := messyStrips(r, 1+r.Intn(c.Strips))
		matches := randomMatches(r, len(strips))
		edits := randomEdits(r, plainSurvey(strips, matches, nil, c))
		points := survey(t, strips, matches, edits, c)
		expect(t, "the points", points, plainSurvey(strips, matches, edits, c))
		expect(t, "the points with other matches", survey(t, strips, shuffled(r, matches), edits, c), points)
		ids := map[int]bool{}
		for i, s := range strips {
			shots, _ := shotsOf(t, i, s, c)
			for _, shot := range shots {
				ids[shot.Id] = true
			}
		}
		for _, p := range points {
			if !ids[p.Id] {
				t.Fatalf("%v is the point of no shot, or of one that has another", p)
			}
			delete(ids, p.Id)
			count[p.Class]++
		}
	}
	for _, class := range []int{api.Other, api.Ground, api.Plant, api.Roof, api.Noise} {
		if count[class] < 10 {
			t.Errorf("the points have the classes %v", count)
		}
	}
}

// P10.5: strips without data, and a strip that is shifted by a match.
func TestSmallSurveys(t *testing.T) {
	expect(t, "the points of no data", survey(t, make([]api.Strip, 8), nil, nil, config(8)), []api.Point(nil))
	flat := survey(t, []api.Strip{{}, single()}, nil, nil, config(2))
	if len(flat) != 1 || flat[0].Id != 1<<40+1 || flat[0].Class != api.Ground {
		t.Fatalf("Survey of one shot: %v", flat)
	}
	high := survey(t, []api.Strip{{}, single()}, []api.Match{lift(1, 70)}, []api.Edit{{Id: 1<<40 + 1, To: api.Plant}}, config(2))
	flat[0].Z.Lo, flat[0].Z.Hi, flat[0].Class = flat[0].Z.Lo+70, flat[0].Z.Hi+70, api.Plant
	expect(t, "the points of a strip that was shifted", high, flat)
}

// P10.5: a match that is an outlier by the limit of the configuration has no effect.
func TestSurveyLimit(t *testing.T) {
	c := config(1)
	matches := []api.Match{lift(0, 0), lift(0, 0), lift(0, 300)}
	c.Limit = 40000 // the weighted square of the third match is 200^2
	all := survey(t, []api.Strip{single()}, matches, nil, c)
	c.Limit--
	some := survey(t, []api.Strip{single()}, matches, nil, c)
	if all[0].Z.Lo != some[0].Z.Lo+100 {
		t.Errorf("Survey with the limits 40000 and 39999: %v and %v", all, some)
	}
}

// fault is an argument that is not valid.
type fault struct {
	spoil func(a *arguments)
	want  api.Errno
}

type arguments struct {
	strips  []api.Strip
	matches []api.Match
	edits   []api.Edit
	c       api.Config
}

// crowded are two strips with 1028 shots.
func crowded() []api.Strip {
	s := single()
	s.Pulses = manyPulses(257)[:256]
	for i := range s.Pulses {
		s.Pulses[i].Pulse.Samples = echoes(3, 3)
	}
	other := s
	other.Pulses = slices.Clone(s.Pulses)
	other.Pulses[0].Pulse.Samples = echoes(3, 3, 3, 3, 3, 3)
	return []api.Strip{s, other}
}

// P10.5: errors in their order.
func TestSurveyErrors(t *testing.T) {
	groups := [][]fault{
		{{func(a *arguments) { a.c.Cap = 0 }, api.ErrConfig}, {func(a *arguments) { a.c.Limit = -1 }, api.ErrConfig}},
		{
			{func(a *arguments) { a.strips = nil }, api.ErrStrip},
			{func(a *arguments) { a.strips = append(a.strips, api.Strip{}) }, api.ErrStrip},
			{func(a *arguments) { a.strips = append(a.strips[:1:1], badStrips()[3]) }, api.ErrStrip},
		},
		{
			{func(a *arguments) { a.matches = append(a.matches, lift(2, 0)) }, api.ErrProblem},
			{func(a *arguments) { a.matches = slices.Repeat(a.matches, 65) }, api.ErrProblem},
		},
		{{func(a *arguments) { a.strips = append(crowded(), a.strips[2:]...) }, api.ErrCount}},
		{
			{func(a *arguments) { a.edits = append(a.edits, slices.Repeat(a.edits, 64)...) }, api.ErrArg},
			{func(a *arguments) { a.edits = append(a.edits, api.Edit{To: 3}) }, api.ErrEdit},
		},
	}
	for mask := range 1 << len(groups) {
		for variant := range 6 {
			a := arguments{[]api.Strip{single(), {}}, []api.Match{lift(0, 5)}, []api.Edit{{Id: 1, To: api.Roof}}, config(2)}
			want := api.OK
			for i, faults := range slices.Backward(groups) {
				if mask>>i&1 == 1 {
					f := faults[variant%len(faults)]
					f.spoil(&a)
					want = f.want
				}
			}
			points, err := plant.Survey(a.strips, a.matches, a.edits, a.c)
			if err != want || (len(points) > 0) != (err == api.OK) {
				t.Errorf("Survey with the faults %b, %d: %d points, error %d, not %d", mask, variant, len(points), err, want)
			}
		}
	}
	two := []api.Match{lift(1, 0)}
	if _, err := plant.Survey([]api.Strip{single()}, two, nil, config(2)); err != api.ErrProblem {
		t.Errorf("Survey of one strip with a match of another one: error %d", err)
	}
}

// P10.5: exactly so many points as there may be.
func TestFullSurvey(t *testing.T) {
	strips := crowded()
	strips[1].Pulses[0].Pulse.Samples = echoes(3, 3)
	if points := survey(t, strips, nil, nil, config(2)); len(points) != api.MaxPoints {
		t.Errorf("Survey has %d points", len(points))
	}
}

// P10.20, P7: a point keeps the class that a person gave it, whatever becomes of its strip, the other strips and the matches.
func TestCorrections(t *testing.T) {
	r := rand.New(rand.NewSource(22))
	met := 0
	for range 60 {
		c := config(3)
		strips := messyStrips(r, 3)
		points := plainSurvey(strips, nil, nil, c)
		if len(points) == 0 {
			continue
		}
		p := points[r.Intn(len(points))]
		edits := append(randomEdits(r, points), api.Edit{Id: p.Id, To: []int{api.Ground, api.Noise, api.Raw}[r.Intn(3)]})
		class := edits[len(edits)-1].To
		for range 4 {
			strips[r.Intn(3)].Pulses = append(messyStrips(r, 1)[0].Pulses, strips[p.Id>>40].Pulses...)
			for i := range strips {
				strips[i] = onceEach(strips[i])
			}
			for _, q := range survey(t, strips, randomMatches(r, 3), edits, c) {
				if q.Id != p.Id {
					continue
				}
				if met++; q.Class != class {
					t.Fatalf("%v has become %v, and not the class %d", p, q, class)
				}
			}
		}
	}
	if met < 100 {
		t.Errorf("the corrected points were there only %d times", met)
	}
}

// onceEach returns a strip without pulses whose numbers are there before.
func onceEach(s api.Strip) api.Strip {
	seen := map[int]bool{}
	s.Pulses = slices.DeleteFunc(slices.Clone(s.Pulses), func(p api.Numbered) bool {
		again := seen[p.Seq]
		seen[p.Seq] = true
		return again
	})
	return s
}

// changed returns points with another field each, and some of them gone.
func changed(r *rand.Rand, points []api.Point) []api.Point {
	var list []api.Point
	for _, p := range points {
		switch r.Intn(24) {
		case 0, 1:
			continue
		case 2:
			p.X = -p.X
		case 3:
			p.Y = -p.Y
		case 4:
			p.Z.Lo--
		case 5:
			p.Z.Hi++
		case 6:
			p.Wide++
		case 7:
			p.Num++
		case 8:
			p.Of++
		case 9:
			p.Class++
		}
		list = append(list, p)
	}
	return slices.DeleteFunc(list, func(p api.Point) bool { return !label.Valid([]api.Point{p}) })
}

// P10.6
func TestDifference(t *testing.T) {
	r := rand.New(rand.NewSource(23))
	for range 400 {
		old := randomPoints(r, r.Intn(40))
		points := shuffled(r, changed(r, old))
		add, remove, err := plant.Difference(old, points)
		expect(t, "the error of Difference", err, api.OK)
		var wantAdd []api.Point
		var wantRemove []int
		for _, p := range points {
			if !slices.Contains(old, p) {
				wantAdd = append(wantAdd, p)
			}
		}
		for _, p := range old {
			if !slices.Contains(points, p) {
				wantRemove = append(wantRemove, p.Id)
			}
		}
		slices.Sort(wantRemove)
		expect(t, "what is to be added", add, sortedById(wantAdd))
		expect(t, "what is to be removed", remove, wantRemove)
		tiles, _, err := tile.Update(old, add, remove, 4)
		if slices.ContainsFunc(points, func(p api.Point) bool { return p.Class > 255 }) {
			continue
		}
		made, _ := tile.Detail(tiles, api.MaxLevel)
		if err != api.OK || !slices.Equal(made, sortedById(points)) {
			t.Fatalf("%v and %v make %v of %v, error %d, not %v", add, remove, made, old, err, points)
		}
	}
}

// P10.6: errors; classes may be any integers.
func TestDifferenceErrors(t *testing.T) {
	good := []api.Point{point(3, 0, 0, 0, -7), point(2, 0, 0, 0, 1<<62)}
	add, remove, err := plant.Difference(good[:1], good)
	if err != api.OK || !slices.Equal(add, good[1:]) || len(remove) > 0 {
		t.Errorf("Difference: %v, %v, error %d", add, remove, err)
	}
	for _, bad := range badPoints() {
		for _, lists := range [][2][]api.Point{{bad, good}, {good, bad}, {bad, bad}} {
			if add, remove, err := plant.Difference(lists[0], lists[1]); err != api.ErrPoint || len(add)+len(remove) > 0 {
				t.Errorf("Difference of %v and %v: %v, %v, error %d", lists[0], lists[1], add, remove, err)
			}
		}
	}
}

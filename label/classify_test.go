package label_test

import (
	"math/rand"
	"slices"
	"testing"

	"lidar/api"
	"lidar/label"
)

func classify(t *testing.T, points []api.Point, r api.Terrain) []int {
	t.Helper()
	classes, err := label.Classify(points, r)
	if err != api.OK || len(classes) != len(points) {
		t.Fatalf("Classify of %v returns %v, error %d", points, classes, err)
	}
	return classes
}

// P7.12: the class of a point between the posts of a frame.
func TestClassify(t *testing.T) {
	r := example() // Reach 2, Tall 40, High 100, Brush 10
	r.Cell, r.Low = 100, 30
	steep := r
	steep.Slope = 0
	for name, c := range map[string]struct {
		p     api.Point
		rules api.Terrain
		want  int
	}{
		"ground":                 {single(9, 50, 20, 2), r, api.Ground},
		"not quite ground":       {single(9, 50, 20, 3), r, api.Other},
		"too steep":              {single(9, 50, 20, 1), steep, api.Other},
		"a first echo":           {echo(9, 50, 20, 0, 1, 2), r, api.Other},
		"below Brush":            {single(9, 50, 20, 9), r, api.Other},
		"Brush":                  {single(9, 50, 20, 10), r, api.Plant},
		"Lo below Brush":         {between(9, 50, 20, 9, 90), r, api.Other},
		"below Tall":             {single(9, 50, 20, 39), r, api.Plant},
		"Tall":                   {single(9, 50, 20, 40), r, api.Roof},
		"of two echoes":          {echo(9, 50, 20, 40, 2, 2), r, api.Plant},
		"High":                   {single(9, 50, 20, 100), r, api.Roof},
		"above High":             {single(9, 50, 20, 101), r, api.Noise},
		"Lo is High":             {between(9, 50, 20, 100, 200), r, api.Roof},
		"as deep as Low":         {echo(9, 50, 20, -30, 1, 2), r, api.Other},
		"deeper than Low":        {echo(9, 50, 20, -31, 1, 2), r, api.Noise},
		"the lowest of its cell": {single(9, 50, 20, -31), r, api.Ground},
		"outside":                {single(9, -1, 20, 50), r, api.Ground}, // the seed of a cell
		"outside, no last echo":  {echo(9, -1, 20, 50, 1, 2), r, api.Other},
		"outside, a first echo":  {echo(9, 101, 20, 5000, 1, 2), r, api.Other},
		"on the border":          {echo(9, 100, 20, 5000, 1, 2), r, api.Noise},
		"over a post, a roof":    {single(9, 0, 0, 30), r, api.Plant},
		"over a post, much more": {single(9, 100, 100, 50), r, api.Ground}, // the post is sunk then
	} {
		t.Run(name, func(t *testing.T) {
			rules := c.rules
			points := with(frame(), c.p)
			if got := classify(t, points, rules)[4]; got != c.want {
				t.Errorf("the class is %d, not %d", got, c.want)
			}
		})
	}
}

// P7.12: what is sunk is noise, wherever it is; the rules come in their order.
func TestClassesInOrder(t *testing.T) {
	r := example()
	r.Cell, r.Low = 100, 30
	points := with(frame(),
		single(5, 500, 500, 0), single(6, 501, 500, 31), // the lower one is sunk; the upper one is a seed
		single(7, 20, 20, -40), single(8, 21, 20, 0), // the same where there are triangles
		single(9, 60, 20, 60), single(10, 62, 20, 60), single(11, 60, 22, 60)) // a house
	r.Few = 3
	want := []int{api.Ground, api.Ground, api.Ground, api.Ground, api.Noise, api.Ground, api.Noise, api.Ground, api.Roof, api.Roof, api.Roof}
	if got := classify(t, points, r); !slices.Equal(got, want) {
		t.Errorf("Classify returns %v, not %v", got, want)
	}
	r.Few = 4
	want[8], want[9], want[10] = api.Plant, api.Plant, api.Plant
	if got := classify(t, points, r); !slices.Equal(got, want) {
		t.Errorf("Classify with Few 4 returns %v, not %v", got, want)
	}
	r.Few, r.Tall, r.Brush = 1, 0, 0 // all that is not below the ground is high
	want[8], want[9], want[10] = api.Roof, api.Roof, api.Roof
	if got := classify(t, points, r); !slices.Equal(got, want) {
		t.Errorf("Classify with Tall 0 returns %v, not %v", got, want)
	}
	r.High = 59
	want[8], want[9], want[10] = api.Noise, api.Noise, api.Noise
	if got := classify(t, points, r); !slices.Equal(got, want) {
		t.Errorf("Classify with High 59 returns %v, not %v", got, want)
	}
}

// P7.16: results do not depend on the order of the points.
func TestOrderOfPoints(t *testing.T) {
	r := rand.New(rand.NewSource(7))
	for range 500 {
		s := randomScene(r)
		ids := someIds(r, s.points)
		in := input{points: s.points, rules: s.rules, ids: ids}
		order := r.Perm(len(s.points))
		turned := in
		turned.points, turned.ids = nil, slices.Clone(ids)
		for _, i := range order {
			turned.points = append(turned.points, s.points[i])
		}
		r.Shuffle(len(ids), func(i, j int) { turned.ids[i], turned.ids[j] = turned.ids[j], turned.ids[i] })
		for name, call := range lists {
			if got, want := call(turned), call(in); !slices.Equal(got, want) {
				t.Fatalf("%s of %v returns %v, not %v", name, turned, got, want)
			}
		}
		classes, again := classify(t, s.points, s.rules), classify(t, turned.points, s.rules)
		for k, i := range order {
			if classes[i] != again[k] {
				t.Fatalf("%v has the class %d and %d", s.points[i], classes[i], again[k])
			}
		}
	}
}

// lists make the calls that return Ids.
var lists = map[string]func(in input) []int{
	"Sunk":   func(in input) []int { ids, _ := label.Sunk(in.points, in.rules); return ids },
	"Lowest": func(in input) []int { ids, _ := label.Lowest(in.points); return ids },
	"Seeds":  func(in input) []int { ids, _ := label.Seeds(in.points, in.rules); return ids },
	"Grow":   func(in input) []int { ids, _ := label.Grow(in.points, in.ids, in.rules); return ids },
	"Ground": func(in input) []int { ids, _ := label.Ground(in.points, in.rules); return ids },
	"Roofs":  func(in input) []int { ids, _ := label.Roofs(in.points, in.ids, in.rules); return ids },
}

// P7.20: only differences of heights matter; classes in arguments, Wide and the size of Ids do not.
func TestLevels(t *testing.T) {
	r := rand.New(rand.NewSource(8))
	for range 500 {
		s := kinds[r.Intn(len(kinds)-1)](r) // heights that are not at the limits
		up := r.Intn(2*limit-2000) - limit + 1000
		raised := slices.Clone(s.points)
		for i := range raised {
			raised[i].Z.Lo += up
			raised[i].Z.Hi += up
			raised[i].Class, raised[i].Wide = r.Intn(9), r.Intn(9)
		}
		if got, want := classify(t, raised, s.rules), classify(t, s.points, s.rules); !slices.Equal(got, want) {
			t.Fatalf("Classify of %v, %d higher, returns %v, not %v", s.points, up, got, want)
		}
	}
}

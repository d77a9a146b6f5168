package label_test

import (
	"math"
	"math/rand"
	"slices"
	"testing"

	"lidar/api"
	"lidar/label"
)

func correct(t *testing.T, points []api.Point, classes []int, edits []api.Edit) []int {
	t.Helper()
	got, err := label.Correct(points, classes, edits)
	if err != api.OK {
		t.Fatalf("Correct of %v, %v, %v: error %d", points, classes, edits, err)
	}
	return got
}

// three has points in, on and outside of a square.
func three() ([]api.Point, []api.XY) {
	return []api.Point{single(7, 1, 1, 0), single(8, 4, 2, 0), single(9, 5, 2, 0)}, []api.XY{place(0, 0), place(4, 0), place(4, 4), place(0, 4)}
}

// P7.14, example 3: edits by Id and by ring, in order.
func TestCorrect(t *testing.T) {
	points, square := three()
	around := func(from, to int) api.Edit { return api.Edit{Id: 9, Ring: square, From: from, To: to} }
	one := func(id, to int) api.Edit { return api.Edit{Id: id, To: to} }
	for name, c := range map[string]struct {
		edits         []api.Edit
		classes, want []int
	}{
		"none":                         {nil, []int{1, 2, 5}, []int{1, 2, 5}},
		"one point":                    {[]api.Edit{one(8, api.Roof)}, []int{1, 2, 5}, []int{1, 6, 5}},
		"no such point":                {[]api.Edit{one(6, api.Roof), one(-1, api.Roof), one(math.MaxInt, api.Roof)}, []int{1, 2, 5}, []int{1, 2, 5}},
		"any From":                     {[]api.Edit{{Id: 8, From: 3, To: 0}, {Id: 7, Ring: []api.XY{}, From: math.MinInt, To: 7}}, []int{1, 2, 5}, []int{7, 0, 5}},
		"a ring":                       {[]api.Edit{around(-1, api.Noise)}, []int{1, 2, 5}, []int{7, 7, 5}},
		"a ring, From a class":         {[]api.Edit{around(2, api.Noise)}, []int{1, 2, 2}, []int{1, 7, 2}},
		"a ring, From Raw":             {[]api.Edit{around(0, api.Noise)}, []int{0, 2, 0}, []int{7, 2, 0}},
		"example 3":                    {[]api.Edit{around(-1, api.Noise), one(7, api.Ground)}, []int{1, 1, 1}, []int{2, 7, 1}},
		"the other way round":          {[]api.Edit{one(7, api.Ground), around(-1, api.Noise)}, []int{1, 1, 1}, []int{7, 7, 1}},
		"From what an edit has made":   {[]api.Edit{one(7, api.Ground), around(2, api.Plant)}, []int{1, 1, 1}, []int{5, 1, 1}},
		"the last one counts":          {[]api.Edit{one(9, api.Ground), one(9, api.Plant)}, []int{1, 1, 1}, []int{1, 1, 5}},
		"classes that are none":        {[]api.Edit{around(-1, api.Plant)}, []int{-1, 99, 3}, []int{5, 5, 3}},
		"classes that are none, From":  {[]api.Edit{around(5, api.Roof)}, []int{-1, 5, 5}, []int{-1, 6, 5}},
		"each edit is applied once":    {[]api.Edit{around(1, api.Ground), around(2, api.Plant), around(1, api.Roof)}, []int{1, 2, 1}, []int{5, 5, 1}},
		"the Class of points, ignored": {[]api.Edit{around(0, api.Plant)}, []int{1, 1, 1}, []int{1, 1, 1}},
	} {
		t.Run(name, func(t *testing.T) {
			got, err := label.Correct(points, c.classes, c.edits)
			expect(t, "Correct", got, err, c.want, api.OK)
		})
	}
}

// P7.14: what makes an edit invalid, alone or as the last of 64.
func TestEditErrors(t *testing.T) {
	points, square := three()
	for name, c := range map[string]struct {
		edit api.Edit
		want api.Errno
	}{
		"To Raw":               {api.Edit{To: 0}, api.OK},
		"To Noise":             {api.Edit{To: 7}, api.OK},
		"To 3":                 {api.Edit{To: 3}, api.ErrEdit},
		"To 4":                 {api.Edit{To: 4}, api.ErrEdit},
		"To 8":                 {api.Edit{To: 8}, api.ErrEdit},
		"To -1":                {api.Edit{To: -1}, api.ErrEdit},
		"To far away":          {api.Edit{To: math.MinInt}, api.ErrEdit},
		"a ring To 3":          {api.Edit{Ring: square, From: -1, To: 3}, api.ErrEdit},
		"a ring From Raw":      {api.Edit{Ring: square, From: 0, To: 2}, api.OK},
		"a ring From Noise":    {api.Edit{Ring: square, From: 7, To: 2}, api.OK},
		"a ring From anything": {api.Edit{Ring: square, From: -1, To: 2}, api.OK},
		"a ring From -2":       {api.Edit{Ring: square, From: -2, To: 2}, api.ErrEdit},
		"a ring From 4":        {api.Edit{Ring: square, From: 4, To: 2}, api.ErrEdit},
		"a ring From 8":        {api.Edit{Ring: square, From: 8, To: 2}, api.ErrEdit},
		"no ring From 8":       {api.Edit{From: 8, To: 2}, api.OK},
		"a short ring":         {api.Edit{Ring: square[:2], From: -1, To: 2}, api.ErrEdit},
		"a long ring":          {api.Edit{Ring: make([]api.XY, 65), From: -1, To: 2}, api.ErrEdit},
		"the longest ring":     {api.Edit{Ring: make([]api.XY, 64), From: -1, To: 2}, api.OK},
		"a ring too far":       {api.Edit{Ring: []api.XY{{}, {X: 1}, {X: limit + 1}}, From: -1, To: 2}, api.ErrEdit},
	} {
		for _, before := range []int{0, 63} {
			edits := append(make([]api.Edit, before), c.edit)
			got, err := label.Correct(points, []int{1, 1, 1}, edits)
			if err != c.want || err != api.OK && len(got) != 0 {
				t.Errorf("%s: Correct returns %v, error %d", name, got, err)
			}
			list, err := label.Label(points, example(), edits)
			if err != c.want || err != api.OK && len(list) != 0 {
				t.Errorf("%s: Label returns %v, error %d", name, list, err)
			}
		}
	}
	for n, want := range map[int]api.Errno{64: api.OK, 65: api.ErrArg, 1000: api.ErrArg} {
		if _, err := label.Correct(points, []int{1, 1, 1}, make([]api.Edit, n)); err != want {
			t.Errorf("Correct with %d edits: error %d", n, err)
		}
		if _, err := label.Label(points, example(), make([]api.Edit, n)); err != want {
			t.Errorf("Label with %d edits: error %d", n, err)
		}
	}
	for n := range 6 {
		if _, err := label.Correct(points, make([]int, n), nil); (err == api.OK) != (n == 3) || n != 3 && err != api.ErrArg {
			t.Errorf("Correct with %d classes: error %d", n, err)
		}
	}
}

// randomEdits returns edits that concern some of the points.
func randomEdits(r *rand.Rand, points []api.Point, n int) []api.Edit {
	classes := []int{api.Raw, api.Other, api.Ground, api.Plant, api.Roof, api.Noise}
	edits := make([]api.Edit, r.Intn(n+1))
	for i := range edits {
		edits[i] = api.Edit{Id: r.Intn(200), From: r.Intn(20) - 9, To: classes[r.Intn(6)]}
		if len(points) > 0 {
			edits[i].Id = points[r.Intn(len(points))].Id
		}
		if r.Intn(2) == 0 {
			edits[i].From = append(classes, -1)[r.Intn(7)]
			edits[i].Ring = randomRing(r, func(r *rand.Rand) api.XY {
				if len(points) == 0 {
					return place(0, 0)
				}
				return placeOf(points[r.Intn(len(points))])
			})
		}
	}
	return edits
}

// P7.14, P7.18: any edits; all at once are the first ones and then the others.
func TestRandomEdits(t *testing.T) {
	r := rand.New(rand.NewSource(11))
	for range 3000 {
		points := randomScene(r).points
		classes := make([]int, len(points))
		for i := range classes {
			classes[i] = r.Intn(12) - 2
		}
		edits := randomEdits(r, points, 8)
		want := plainCorrect(points, classes, edits)
		got, err := label.Correct(points, classes, edits)
		expect(t, "Correct", got, err, want, api.OK)
		k := r.Intn(len(edits) + 1)
		if got := correct(t, points, correct(t, points, classes, edits[:k]), edits[k:]); !slices.Equal(got, want) {
			t.Fatalf("%v, first %d of them, then the others, make %v of %v, not %v", edits, k, got, classes, want)
		}
	}
}

// P7.15: the points come in ascending order of their Ids, with nothing changed but their classes.
func TestLabel(t *testing.T) {
	r := rand.New(rand.NewSource(12))
	for range 600 {
		s := randomScene(r)
		edits := randomEdits(r, s.points, 5)
		want := slices.Clone(s.points)
		for i, c := range plainCorrect(s.points, classify(t, s.points, s.rules), edits) {
			want[i].Class = c
		}
		slices.SortFunc(want, func(p, q api.Point) int { return p.Id - q.Id })
		got, err := label.Label(s.points, s.rules, edits)
		if err != api.OK || !slices.Equal(got, want) {
			t.Fatalf("Label of %v, %v, %v returns %v, error %d, not %v", s.points, s.rules, edits, got, err, want)
		}
	}
}

// P7.18: without edits, Label is Classify.
func TestLabelWithoutEdits(t *testing.T) {
	r := example()
	points := with(frame(), single(5, 50, 20, 50), single(6, 60, 20, 12))
	list, err := label.Label(points, r, nil)
	if err != api.OK {
		t.Fatalf("Label: error %d", err)
	}
	for i, c := range classify(t, points, r) {
		if want := points[i]; list[i].Class != c || list[i].Id != want.Id {
			t.Errorf("Label returns %v for %v, not the class %d", list[i], want, c)
		}
	}
}

// P7.18: what the last edit says of a point stays, whatever the rules, the other points and its own place are.
func TestCorrectionsStay(t *testing.T) {
	r := rand.New(rand.NewSource(13))
	for range 600 {
		s := randomScene(r)
		if len(s.points) == 0 {
			continue
		}
		named := s.points[r.Intn(len(s.points))]
		edits := append(randomEdits(r, s.points, 4), api.Edit{Id: named.Id, To: api.Roof})
		for range 2 {
			edits = append(edits, api.Edit{Id: named.Id + 1, To: api.Plant}) // of another point, or of none
		}
		list, err := label.Label(s.points, s.rules, edits)
		k := slices.IndexFunc(list, func(p api.Point) bool { return p.Id == named.Id })
		if err != api.OK || k < 0 || list[k].Class != api.Roof {
			t.Fatalf("Label of %v, %v, %v returns %v, error %d", s.points, s.rules, edits, list, err)
		}
	}
}

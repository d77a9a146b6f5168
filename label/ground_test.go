package label_test

import (
	"math/rand"
	"slices"
	"testing"

	"lidar/api"
	"lidar/label"
)

func grow(t *testing.T, points []api.Point, ground []int, r api.Terrain) []int {
	t.Helper()
	ids, err := label.Grow(points, ground, r)
	if err != api.OK {
		t.Fatalf("Grow of %v, %v: error %d", points, ground, err)
	}
	return ids
}

// P7.8: which point a round adds to a triangle.
func TestGrowAddsTheNearest(t *testing.T) {
	r := example() // Reach 2
	r.Low = 10
	for name, c := range map[string]struct {
		points []api.Point // beside a frame
		want   []int       // beside its Ids
	}{
		"nothing":                      {nil, nil},
		"one fits":                     {[]api.Point{single(9, 40, 20, 2)}, []int{9}},
		"one does not fit":             {[]api.Point{single(9, 40, 20, 3)}, nil},
		"the nearest":                  {[]api.Point{single(7, 40, 20, 2), single(8, 20, 30, 1), single(9, 60, 20, 2)}, []int{8}},
		"the nearest, below":           {[]api.Point{single(7, 40, 20, 2), single(8, 20, 30, -1)}, []int{8}},
		"as near, the lower":           {[]api.Point{single(7, 40, 20, 1), single(8, 20, 30, -1)}, []int{8}},
		"as near and high, by Id":      {[]api.Point{single(9, 40, 20, 1), single(8, 20, 30, 1), single(10, 30, 30, 1)}, []int{8}},
		"as near, the lower Hi":        {[]api.Point{between(7, 40, 20, 1, 5), between(8, 20, 30, 1, 4)}, []int{8}},
		"one for each triangle":        {[]api.Point{single(7, 40, 20, 1), single(8, 60, 80, 2)}, []int{7, 8}},
		"on the shared side":           {[]api.Point{single(7, 50, 50, 1), single(8, 60, 80, 2)}, []int{7, 8}},
		"on the shared side, lower":    {[]api.Point{single(7, 50, 50, 1), single(8, 20, 20, 2)}, []int{7}},
		"no last echo":                 {[]api.Point{echo(7, 40, 20, 0, 1, 2)}, nil},
		"a sunk one":                   {[]api.Point{single(7, 40, 20, 0), single(8, 41, 20, 11)}, nil},
		"the lowest at its place":      {[]api.Point{single(7, 40, 20, 2), single(8, 40, 20, 1)}, []int{8}},
		"not the lowest at its place":  {[]api.Point{single(7, 40, 20, -9), single(8, 40, 20, 1)}, nil},
		"outside of the triangles":     {[]api.Point{single(7, 101, 50, 0)}, nil},
		"on the border":                {[]api.Point{single(7, 100, 50, 0)}, []int{7}},
		"at the place of a ground one": {[]api.Point{single(7, 0, 0, 0)}, nil},
	} {
		t.Run(name, func(t *testing.T) {
			want := append([]int{1, 2, 3, 4}, c.want...)
			if got := grow(t, with(frame(), c.points...), []int{3, 1, 4, 2}, r); !slices.Equal(got, want) {
				t.Errorf("Grow returns %v, not %v", got, want)
			}
		})
	}
}

// P7.8: any points may be given as ground; points that are there stay.
func TestGrowFromAnyGround(t *testing.T) {
	r := example()
	r.Low = 10
	points := with(frame(), echo(5, 50, 20, 0, 1, 2), single(6, 10, 50, -30), single(7, 11, 50, 0), single(8, 110, 110, 500))
	for _, c := range []struct{ ground, want []int }{
		{nil, nil}, {[]int{2}, []int{2}}, {[]int{2, 1}, []int{1, 2}}, {[]int{8, 5}, []int{5, 8}},
		{[]int{4, 3, 2, 1, 5}, []int{1, 2, 3, 4, 5, 7}}, // a first echo
		{[]int{1, 2, 3, 4, 6}, []int{1, 2, 3, 4, 6}},    // a sunk one
		{[]int{1, 2, 3, 8}, []int{1, 2, 3, 7, 8}},
	} {
		if got := grow(t, points, c.ground, r); !slices.Equal(got, c.want) {
			t.Errorf("Grow of %v returns %v, not %v", c.ground, got, c.want)
		}
	}
}

// P7.8: a candidate may fit where another point is ground: the result has two points at one place then.
func TestGrowAtAPlaceThatIsTaken(t *testing.T) {
	points := with(frame(), between(5, 50, 20, 1, 1), between(6, 50, 20, 0, 2))
	got := grow(t, points, []int{1, 2, 3, 4, 6}, example())
	if !slices.Equal(got, []int{1, 2, 3, 4, 5, 6}) {
		t.Fatalf("Grow returns %v", got)
	}
	if _, err := label.Grow(points, got, example()); err != api.ErrPlace {
		t.Errorf("Grow of it: error %d", err)
	}
}

// P7.9: rounds go on from the points that earlier ones have added.
func TestGroundGrowsInRounds(t *testing.T) {
	r := example() // Reach 2
	r.Cell = 1000
	points := []api.Point{single(1, 0, 0, 0), single(2, 2000, 0, 0), single(3, 0, 2000, 0), single(4, 2000, 2000, 0)}
	want := []int{1, 2, 3, 4}
	for k := 1; k <= 20; k++ {
		points = append(points, single(100-k, 10*k, 10*k, 2*k)) // up the hill
		want = append(want, 100-k)
	}
	points = append(points, single(200, 205, 205, 50))
	rounds := 0
	for ids := []int{1, 2, 3, 4}; ; rounds++ {
		more := grow(t, points, ids, r)
		if len(more) == len(ids) {
			break
		}
		ids = more
	}
	if rounds != 20 {
		t.Errorf("there are %d rounds", rounds)
	}
	got, err := label.Ground(points, r)
	expect(t, "Ground", got, err, sorted(want), api.OK)
}

// P7.9: where seeds have no triangle, nothing is added.
func TestGroundOnALine(t *testing.T) {
	r := example()
	points := []api.Point{single(1, 0, 0, 0), single(2, 3, 3, 0), single(3, 10, 10, 0), single(4, 25, 25, 0), single(5, 27, 28, 0)}
	got, err := label.Ground(points, r)
	expect(t, "Ground", got, err, []int{1, 3, 4}, api.OK)
}

// P7.17: Ground has all seeds, at different places; nothing that is not in it fits it.
func TestGroundIsComplete(t *testing.T) {
	r := rand.New(rand.NewSource(6))
	for range 400 {
		s := randomScene(r)
		ids, err := label.Ground(s.points, s.rules)
		if err != api.OK || !slices.IsSorted(ids) {
			t.Fatalf("Ground returns %v, error %d", ids, err)
		}
		seeds, _ := label.Seeds(s.points, s.rules)
		for _, id := range seeds {
			if !slices.Contains(ids, id) {
				t.Fatalf("the seed %d is not in %v", id, ids)
			}
		}
		m := surface(t, s.points, ids...) // no two are at one place
		for _, p := range plainWithout(plainCandidates(s), ids) {
			if ok, _, err := label.Fits(m, p, s.rules); ok || err != api.OK {
				t.Fatalf("%v fits %v, error %d", p, m, err)
			}
		}
		if more := grow(t, s.points, ids, s.rules); !slices.Equal(more, ids) {
			t.Fatalf("Grow of %v returns %v", ids, more)
		}
	}
}

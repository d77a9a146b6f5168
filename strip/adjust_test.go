package strip_test

import (
	"math/rand"
	"slices"
	"testing"

	"lidar/api"
	"lidar/strip"
)

// plainAdjust removes outliers by the plain solution and the plain search for the worst match.
func plainAdjust(p api.Problem, limit int) (place, []int) {
	type numbered struct {
		index int
		match api.Match
	}
	var left []numbered
	for i, m := range p.Matches {
		left = append(left, numbered{i, m})
	}
	var removed []int
	for {
		q := problem(p.Strips)
		for _, n := range left {
			q.Matches = append(q.Matches, n.match)
		}
		_, solution := plainSolution(q)
		i, product := solution.plainWorst(q.Matches)
		if product.Cmp(whole(limit)) <= 0 {
			return solution, removed
		}
		removed = append(removed, left[i].index)
		left = slices.Delete(left, i, i+1)
	}
}

// checkAdjustment checks P5.9 and P5.15 for a problem.
func checkAdjustment(t *testing.T, p api.Problem, limit int) {
	t.Helper()
	want, wantRemoved := plainAdjust(p, limit)
	s, removed, err := strip.Adjust(p, limit)
	expectPlace(t, "Adjust", s, err, want)
	if !slices.Equal(removed, wantRemoved) {
		t.Errorf("Adjust of %v, %d removes %v, want %v", p, limit, removed, wantRemoved)
	}
	left, err := strip.Without(p, removed)
	if err != api.OK {
		t.Fatalf("Without %v of %v: error %d", removed, p, err)
	}
	expectPlace(t, "Solve of what is left", solved(t, left), api.OK, want)
	if _, product, err := strip.Worst(left, s); err != api.OK || value(t, product).Cmp(whole(limit)) > 0 {
		t.Errorf("Worst of what is left of %v is %v, error %d", p, product, err)
	}
	if _, product, _ := strip.Worst(p, solved(t, p)); (len(removed) == 0) != (value(t, product).Cmp(whole(limit)) <= 0) {
		t.Errorf("Adjust of %v with a worst product of %v removes %v", p, product, removed)
	}
}

// P5.9, P5.15
func TestAdjustments(t *testing.T) {
	r := rand.New(rand.NewSource(1))
	for range 400 {
		checkAdjustment(t, randomProblem(r), []int{0, 1, 30, 1000, 1 << 40, 1<<63 - 1}[r.Intn(6)])
	}
	for _, p := range goodProblems() {
		checkAdjustment(t, p, 3)
	}
}

// P5.9: every match may be removed, also from a problem at the limits.
func TestAdjustOfAFullProblem(t *testing.T) {
	p := fullProblem(rand.New(rand.NewSource(2)))
	for i, m := range p.Matches {
		p.Matches[i].B, p.Matches[i].A = -1, (m.A+i)%8
	}
	s, removed, err := strip.Adjust(p, 0)
	left, _ := strip.Without(p, removed)
	if err != api.OK || len(left.Matches) > 24 {
		t.Errorf("Adjust removes %d matches, error %d", len(removed), err)
	}
	expectPlace(t, "Adjust", solved(t, left), api.OK, placeOf(t, s))
	if misfit, err := strip.Misfit(left, s); err != api.OK || !isNumber(misfit, whole(0)) {
		t.Errorf("the misfit of what is left is %v, error %d", misfit, err)
	}
}

// P5.9: examples; a product that is equal to the limit is no outlier, and removed matches have the indexes of the problem.
func TestAdjust(t *testing.T) {
	heights := func(list ...int) api.Problem {
		p := problem(1)
		for _, d := range list {
			p.Matches = append(p.Matches, up(0, -1, d, 1))
		}
		return p
	}
	for _, c := range []struct {
		p       api.Problem
		limit   int
		z       int
		removed []int
	}{
		{heights(1, 100, 3), 10, -2, []int{1}},
		{heights(10, 0), 25, -5, nil}, {heights(10, 0), 24, -10, []int{1}}, {heights(0, 10), 24, -10, []int{0}},
		{heights(1000, 3, 100, 1), 1, -2, []int{0, 2}}, {heights(3, 1000, 1, 100), 1, -2, []int{1, 3}},
		{heights(1, 100, 3), 1 << 62, 0, nil}, {heights(), 0, 0, nil}, {heights(7), 0, -7, nil}, {heights(7, 7), 0, -7, nil},
		{heights(4, 4, 0, 0), 3, -4, []int{2, 3}},
	} {
		s, removed, err := strip.Adjust(c.p, c.limit)
		if c.limit == 1<<62 {
			expectPlace(t, "Adjust", s, err, placeOf(t, solved(t, c.p)))
		} else {
			want := nowhere(1)
			want[2] = whole(c.z)
			expectPlace(t, "Adjust", s, err, want)
		}
		if !slices.Equal(removed, c.removed) {
			t.Errorf("Adjust of %v, %d removes %v, want %v", c.p, c.limit, removed, c.removed)
		}
	}
}

// P5.8: Without, for all lists of few indexes.
func TestWithout(t *testing.T) {
	p := problem(3, up(0, 1, 1, 1), up(1, 2, 2, 2), up(2, -1, 3, 3), up(0, 1, 1, 1))
	var check func(drop []int)
	check = func(drop []int) {
		want, left := api.OK, problem(3)
		for i, n := range drop {
			if n < 0 || n > 3 || slices.Contains(drop[:i], n) {
				want = api.ErrArg
			}
		}
		for i, m := range p.Matches {
			if !slices.Contains(drop, i) {
				left.Matches = append(left.Matches, m)
			}
		}
		if want != api.OK {
			left = api.Problem{}
		}
		got, err := strip.Without(p, drop)
		if err != want || got.Strips != left.Strips || !slices.Equal(got.Matches, left.Matches) {
			t.Errorf("Without %v = %v, error %d, want %v, error %d", drop, got, err, left, want)
		}
		for n := -1; n <= 4 && len(drop) < 4; n++ {
			check(append(drop[:len(drop):len(drop)], n))
		}
	}
	check(nil)
	for _, n := range outside(0, 3) {
		if got, err := strip.Without(p, []int{n}); err != api.ErrArg || !isZero(got) {
			t.Errorf("Without %d = %v, error %d", n, got, err)
		}
	}
}

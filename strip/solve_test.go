package strip_test

import (
	"math/big"
	"math/rand"
	"slices"
	"testing"

	"lidar/api"
	"lidar/strip"
)

// plainEquations returns the rows of N, each with its element of R behind it, as the chapter defines them.
func plainEquations(p api.Problem) [][]*big.Rat {
	rows := make([][]*big.Rat, 3*p.Strips)
	for i := range rows {
		for j := range rows {
			sum := new(big.Rat)
			for _, m := range p.Matches {
				sum = plus(sum, whole(m.W*coefficient(m, i)*coefficient(m, j)))
			}
			rows[i] = append(rows[i], sum)
		}
		sum := new(big.Rat)
		for _, m := range p.Matches {
			sum = plus(sum, times(whole(-m.W*coefficient(m, i)), whole(m.D)))
		}
		rows[i] = append(rows[i], sum)
	}
	return rows
}

// plainSolution solves the equations by the method of Gauss and Jordan with exchanges of rows. A column that has no entry left below the rows of the pivots in front of it is a sum of multiples of theirs.
func plainSolution(p api.Problem) ([]bool, place) {
	rows, pivots, used := plainEquations(p), make([]bool, 3*p.Strips), 0
	for j := range pivots {
		i := used
		for i < len(rows) && rows[i][j].Sign() == 0 {
			i++
		}
		if i == len(rows) {
			continue
		}
		pivots[j] = true
		rows[used], rows[i] = rows[i], rows[used]
		clearColumn(rows, used, j)
		used++
	}
	solution, at := nowhere(p.Strips), 0
	for j, isPivot := range pivots {
		if isPivot {
			solution[j] = rows[at][len(pivots)]
			at++
		}
	}
	return pivots, solution
}

// clearColumn makes the entry of a row 1 and those of the other rows 0.
func clearColumn(rows [][]*big.Rat, row, column int) {
	inverse := new(big.Rat).Inv(rows[row][column])
	for j, x := range rows[row] {
		rows[row][j] = times(x, inverse)
	}
	for i := range rows {
		if i == row || rows[i][column].Sign() == 0 {
			continue
		}
		factor := new(big.Rat).Neg(rows[i][column])
		for j, x := range rows[i] {
			rows[i][j] = plus(x, times(factor, rows[row][j]))
		}
	}
}

func checkEquations(t *testing.T, p api.Problem) {
	t.Helper()
	n, r, err := strip.Equations(p)
	want := plainEquations(p)
	if err != api.OK || len(n) != len(want) || len(r) != len(want) {
		t.Fatalf("Equations of %v: %d and %d rows, error %d", p, len(n), len(r), err)
	}
	for i, row := range n {
		if len(row) != len(want) {
			t.Fatalf("Equations of %v: the row %d has the length %d", p, i, len(row))
		}
		for j, x := range append(slices.Clone(row), r[i]) {
			if whole(x).Cmp(want[i][j]) != 0 {
				t.Errorf("Equations of %v: %d in the row %d and column %d, want %s", p, x, i, j, want[i][j].RatString())
			}
		}
	}
}

func checkSolution(t *testing.T, p api.Problem) {
	t.Helper()
	pivots, want := plainSolution(p)
	got, err := strip.Pivots(p)
	if err != api.OK || !slices.Equal(got, pivots) {
		t.Errorf("Pivots of %v = %v, error %d, want %v", p, got, err, pivots)
	}
	s, err := strip.Solve(p)
	expectPlace(t, "Solve", s, err, want)
}

// P5.5, P5.6
func TestSolutions(t *testing.T) {
	r := rand.New(rand.NewSource(1))
	for range 1500 {
		p := randomProblem(r)
		checkEquations(t, p)
		checkSolution(t, p)
	}
	for _, p := range goodProblems() {
		checkEquations(t, p)
		checkSolution(t, p)
	}
}

// P5.5, P5.6: all problems with two strips and few matches along two axes, so that each pattern of free unknowns is there.
func TestSmallProblems(t *testing.T) {
	var kinds []api.Match
	for _, normal := range [][3]int{{1, 0, 0}, {0, 0, 1}, {1, 0, 1}, {-2, 0, 1}} {
		kinds = append(kinds, tied(0, -1, normal, 3, 1), tied(1, -1, normal, -1, 2), tied(0, 1, normal, 2, 1), tied(1, 0, normal, 5, 1))
	}
	for _, a := range kinds {
		checkSolution(t, problem(2, a))
		for _, b := range kinds {
			checkSolution(t, problem(2, a, b))
			for _, c := range kinds {
				checkSolution(t, problem(2, a, b, c))
			}
		}
	}
}

// P5.5, P5.6, P5.9: at the limits nothing is large and nothing overflows.
func TestFullProblems(t *testing.T) {
	r := rand.New(rand.NewSource(2))
	for range 2 {
		p := fullProblem(r)
		checkEquations(t, p)
		checkSolution(t, p)
	}
	for _, d := range []int{-1 << 38, 1 << 38} {
		p := problem(8)
		for range 64 {
			p.Matches = append(p.Matches, tied(0, 7, [3]int{-100, 100, 100}, d, 1000))
		}
		checkEquations(t, p)
		checkSolution(t, p)
	}
}

// P5.6: the examples of two strips that are tied to the ground, and that float.
func TestTwoStrips(t *testing.T) {
	p := problem(2, up(0, 1, 10, 1), up(0, -1, 0, 1))
	for _, c := range []struct {
		p      api.Problem
		z0, z1 int
		pivots []bool
	}{
		{p, 0, 10, []bool{false, false, true, false, false, true}},
		{problem(2, p.Matches[0]), -10, 0, []bool{false, false, true, false, false, false}},
		{problem(2, p.Matches[1]), 0, 0, []bool{false, false, true, false, false, false}},
		{problem(2), 0, 0, make([]bool, 6)},
	} {
		want := nowhere(2)
		want[2], want[5] = whole(c.z0), whole(c.z1)
		s, err := strip.Solve(c.p)
		expectPlace(t, "Solve", s, err, want)
		pivots, err := strip.Pivots(c.p)
		if err != api.OK || !slices.Equal(pivots, c.pivots) {
			t.Errorf("Pivots of %v = %v, error %d", c.p, pivots, err)
		}
	}
}

// P5.12, P5.13: no other shifts have a smaller misfit, and theirs is that of the solution plus the weighted squares of the differences of their residuals.
func TestMinimum(t *testing.T) {
	r := rand.New(rand.NewSource(3))
	for range 500 {
		p := randomProblem(r)
		s := solved(t, p)
		slopes, err := strip.Slopes(p, s)
		for _, x := range slopes {
			expect(t, "Slopes of Solve", x, err, whole(0))
		}
		best := placeOf(t, s)
		least := best.misfit(p.Matches)
		if ok, err := strip.Minimal(p, s); !ok || err != api.OK {
			t.Errorf("Minimal of Solve of %v = %t, error %d", p, ok, err)
		}
		near := slices.Clone(best)
		i := r.Intn(len(near))
		near[i] = plus(near[i], big.NewRat(int64(1-2*r.Intn(2)), 1<<20))
		for _, other := range []place{near, randomPlace(r, p.Strips), nowhere(p.Strips)} {
			sum := new(big.Rat).Set(least)
			for _, m := range p.Matches {
				difference := new(big.Rat).Sub(other.residual(m), best.residual(m))
				sum = plus(sum, times(whole(m.W), times(difference, difference)))
			}
			misfit, err := strip.Misfit(p, other.shifts())
			expect(t, "Misfit", misfit, err, sum)
			if ok, err := strip.Minimal(p, other.shifts()); ok != (sum.Cmp(least) == 0) || err != api.OK {
				t.Errorf("Minimal of %v, %v = %t, error %d", p, other, ok, err)
			}
		}
	}
}

// P5.14: a group without ground may move as a whole.
func TestFreedom(t *testing.T) {
	r := rand.New(rand.NewSource(4))
	for range 500 {
		p := randomProblem(r)
		groups, err := strip.Groups(p)
		if err != api.OK {
			t.Fatalf("Groups of %v: error %d", p, err)
		}
		at := placeOf(t, solved(t, p))
		vectors := randomPlace(r, p.Strips) // one for each group, by its number
		for i := range at {
			if g := groups[i/3]; g >= 0 {
				at[i] = plus(at[i], vectors[3*g+i%3])
			}
		}
		if ok, err := strip.Minimal(p, at.shifts()); !ok || err != api.OK {
			t.Errorf("Minimal of %v, %v = %t, error %d", p, at, ok, err)
		}
	}
}

// P5.16: the order of the matches does not matter, nor does that of the strips of a match.
func TestOrder(t *testing.T) {
	r := rand.New(rand.NewSource(5))
	for range 300 {
		p := randomProblem(r)
		limit := r.Intn(100)
		s, _, err := strip.Adjust(p, limit)
		adjusted, solution := placeOf(t, s), placeOf(t, solved(t, p))
		other := problem(p.Strips, slices.Clone(p.Matches)...)
		r.Shuffle(len(other.Matches), func(i, j int) {
			other.Matches[i], other.Matches[j] = other.Matches[j], other.Matches[i]
		})
		expectPlace(t, "Solve in another order", solved(t, other), api.OK, solution)
		again, _, otherErr := strip.Adjust(other, limit)
		if err != api.OK {
			t.Errorf("Adjust of %v: error %d", p, err)
		}
		expectPlace(t, "Adjust in another order", again, otherErr, adjusted)
		at := randomPlace(r, p.Strips)
		for i, m := range p.Matches {
			if m.B == -1 {
				continue
			}
			other.Matches = []api.Match{tied(m.B, m.A, [3]int{-m.Normal[0], -m.Normal[1], -m.Normal[2]}, m.D, m.W)}
			residual, err := strip.Residual(other, at.shifts(), 0)
			expect(t, "Residual", residual, err, at.residual(p.Matches[i]))
		}
	}
}

package strip_test

import (
	"math/rand"
	"slices"
	"testing"

	"lidar/api"
	"lidar/strip"
)

// outcome is what a call returns: its error and its other results.
type outcome struct {
	err     api.Errno
	results []any
}

// withShifts are the functions that have shifts as arguments; those with an index get one that is not there.
func withShifts(p api.Problem, t [][3]api.Rat) map[string]outcome {
	residual, residualErr := strip.Residual(p, t, -1)
	misfit, misfitErr := strip.Misfit(p, t)
	slopes, slopesErr := strip.Slopes(p, t)
	minimal, minimalErr := strip.Minimal(p, t)
	worst, product, worstErr := strip.Worst(p, t)
	return map[string]outcome{
		"Residual": {residualErr, []any{residual}}, "Misfit": {misfitErr, []any{misfit}}, "Slopes": {slopesErr, []any{slopes}},
		"Minimal": {minimalErr, []any{minimal}}, "Worst": {worstErr, []any{worst, product}},
	}
}

// withoutShifts are the other functions of problems; each gets another argument that is not valid, if it has one.
func withoutShifts(p api.Problem) map[string]outcome {
	n, r, equationsErr := strip.Equations(p)
	pivots, pivotsErr := strip.Pivots(p)
	s, solveErr := strip.Solve(p)
	left, withoutErr := strip.Without(p, []int{-1})
	adjusted, removed, adjustErr := strip.Adjust(p, -1)
	groups, groupsErr := strip.Groups(p)
	return map[string]outcome{
		"Equations": {equationsErr, []any{n, r}}, "Pivots": {pivotsErr, []any{pivots}}, "Solve": {solveErr, []any{s}},
		"Without": {withoutErr, []any{left}}, "Adjust": {adjustErr, []any{adjusted, removed}}, "Groups": {groupsErr, []any{groups}},
	}
}

func expectError(t *testing.T, outcomes map[string]outcome, want api.Errno) {
	t.Helper()
	for name, o := range outcomes {
		if o.err != want || slices.ContainsFunc(o.results, func(x any) bool { return !isZero(x) }) {
			t.Errorf("%s: %v, error %d, want %d", name, o.results, o.err, want)
		}
	}
}

// largeRats are numbers that are large, the last one only as it is given.
func largeRats() []api.Rat {
	long := make([]uint32, 257)
	long[256] = 1
	return []api.Rat{{Num: long}, {Den: long}, {Num: []uint32{5}, Den: long}, {Neg: true, Num: long, Den: long}}
}

// P5.1, R2: ErrProblem comes first, ErrShift second.
func TestErrorsOfProblemsAndShifts(t *testing.T) {
	for _, p := range badProblems() {
		expectError(t, withoutShifts(p), api.ErrProblem)
		for _, n := range []int{0, 1, 3} {
			expectError(t, withShifts(p, make([][3]api.Rat, n)), api.ErrProblem)
		}
	}
	p := problem(3, easy, easy)
	for _, n := range []int{0, 1, 2, 4, 9} {
		expectError(t, withShifts(p, make([][3]api.Rat, n)), api.ErrShift)
	}
	for _, x := range largeRats() {
		for at := range 9 {
			s := make([][3]api.Rat, 3)
			s[at/3][at%3] = x
			expectError(t, withShifts(p, s), api.ErrShift)
		}
	}
}

// P5.4, P5.9: ErrArg.
func TestErrorsOfArguments(t *testing.T) {
	p := problem(3, easy, easy)
	for _, n := range outside(0, 1) {
		if x, err := strip.Residual(p, make([][3]api.Rat, 3), n); err != api.ErrArg || !isZero(x) {
			t.Errorf("Residual of the match %d = %v, error %d", n, x, err)
		}
	}
	if x, err := strip.Residual(problem(1), make([][3]api.Rat, 1), 0); err != api.ErrArg || !isZero(x) {
		t.Errorf("Residual without matches = %v, error %d", x, err)
	}
	for _, n := range []int{-1, -2, -1 << 63} {
		if s, removed, err := strip.Adjust(p, n); err != api.ErrArg || len(s) > 0 || len(removed) > 0 {
			t.Errorf("Adjust with the limit %d = %v, %v, error %d", n, s, removed, err)
		}
	}
}

// P5.1: an index that is not there comes before a result that is large.
func TestResidualErrorsInOrder(t *testing.T) {
	p := problem(1, tied(0, -1, [3]int{100, 0, 0}, 0, 1))
	s := [][3]api.Rat{{{Num: make([]uint32, 256)}, {}, {}}}
	s[0][0].Num[255] = 1 << 31
	if x, err := strip.Residual(p, s, 1); err != api.ErrArg || !isZero(x) {
		t.Errorf("Residual = %v, error %d", x, err)
	}
	if x, err := strip.Residual(p, s, 0); err != api.ErrSize || !isZero(x) {
		t.Errorf("Residual = %v, error %d", x, err)
	}
}

// R4: arguments stay as they are, and what lies behind their ends is not read.
func TestArgumentsStay(t *testing.T) {
	r := rand.New(rand.NewSource(1))
	for range 100 {
		p := randomProblem(r)
		p.Matches = append(p.Matches, up(0, -1, 1000, 1), up(0, -1, 0, 1), api.Match{}, easy)
		all, before := p.Matches, slices.Clone(p.Matches)
		p.Matches = all[:len(all)-2]
		at := randomPlace(r, p.Strips)
		shifts := append(at.shifts(), [3]api.Rat{largeRats()[0]})
		drop := []int{1, 0, -1}
		withoutShifts(p)
		withShifts(p, shifts[:p.Strips])
		if _, removed, err := strip.Adjust(p, 3); err != api.OK || len(removed) == 0 {
			t.Errorf("Adjust of %v removes %v, error %d", p, removed, err)
		}
		if _, err := strip.Without(p, drop[:2]); err != api.OK {
			t.Errorf("Without two: error %d", err)
		}
		if !slices.Equal(all, before) || !slices.Equal(drop, []int{1, 0, -1}) {
			t.Errorf("the matches %v have become %v", before, all)
		}
		expectPlace(t, "shifts", shifts[:p.Strips], api.OK, at)
		moved := [3]api.Rat{shifts[0][0], shifts[0][1], shifts[0][2]}
		if _, err := strip.Move(api.Box{}, moved); err != api.OK {
			t.Errorf("Move: error %d", err)
		}
		expectPlace(t, "shifts", shifts[:p.Strips], api.OK, at)
	}
}

// expectApart checks that lists share no memory: each of them is filled with something else, which the others must not show.
func expectApart[T comparable](t *testing.T, what string, something T, lists ...[]T) {
	t.Helper()
	for i, l := range lists {
		var before [][]T
		for _, other := range lists {
			before = append(before, slices.Clone(other))
		}
		l = l[:cap(l)]
		for k := range l {
			l[k] = something
		}
		for j, other := range lists {
			if j != i && !slices.Equal(other, before[j]) {
				t.Errorf("%s: the list %d shares memory with the list %d", what, i, j)
			}
		}
	}
}

// wordLists returns all lists in the numbers of shifts.
func wordLists(shifts ...[3]api.Rat) [][]uint32 {
	var lists [][]uint32
	for _, s := range shifts {
		for _, x := range s {
			lists = append(lists, x.Num, x.Den)
		}
	}
	return lists
}

// R4: results are new memory, also each list within them.
func TestResultsAreNew(t *testing.T) {
	p := problem(2, tied(0, 1, [3]int{1, 2, 3}, 10, 3), up(0, -1, 2, 5), tied(1, -1, [3]int{2, 1, -3}, 1000, 1), tied(1, 0, [3]int{0, 1, 7}, 3, 2), up(0, -1, 700, 1))
	n, r, _ := strip.Equations(p)
	expectApart(t, "Equations", 77, append(n, r)...)
	expectApart(t, "Solve", 77, wordLists(solved(t, p)...)...)
	adjusted, removed, err := strip.Adjust(p, 0)
	if len(removed) == 0 {
		t.Errorf("Adjust removes nothing, error %d", err)
	}
	expectApart(t, "Adjust", 77, wordLists(adjusted...)...)
	_, want := plainSolution(p)
	expectPlace(t, "Solve", solved(t, p), api.OK, want)
	shifts := func() [][3]api.Rat { return placeOf(t, solved(t, problem(2, p.Matches[:4]...))).shifts() }
	s := shifts()
	slopes, _ := strip.Slopes(p, s)
	for _, x := range slopes {
		s = append(s, [3]api.Rat{x})
	}
	expectApart(t, "Slopes", 77, wordLists(s...)...)
	s = shifts()
	residual, _ := strip.Residual(p, s, 0)
	misfit, _ := strip.Misfit(p, s)
	_, product, _ := strip.Worst(p, s)
	expectApart(t, "Residual, Misfit, Worst", 77, wordLists(append(s, [3]api.Rat{residual, misfit, product})...)...)
	for _, drop := range [][]int{nil, {4}, {0}, {1, 2}} {
		whole := problem(2, many(5)...)
		left, _ := strip.Without(whole, drop)
		expectApart(t, "Without", up(0, 1, 0, 1), left.Matches, whole.Matches)
	}
}

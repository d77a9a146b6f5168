package strip_test

import (
	"cmp"
	"math/big"
	"math/rand"
	"slices"
	"testing"

	"lidar/api"
	"lidar/strip"
)

// plainWorst returns the index of the worst match and its product, as the chapter defines them.
func (p place) plainWorst(matches []api.Match) (int, *big.Rat) {
	if len(matches) == 0 {
		return -1, new(big.Rat)
	}
	indexes := make([]int, len(matches))
	for i := range indexes {
		indexes[i] = i
	}
	slices.SortStableFunc(indexes, func(i, j int) int {
		m, n := matches[i], matches[j]
		if c := p.product(n).Cmp(p.product(m)); c != 0 {
			return c
		}
		x := []int{m.A, m.B, m.Normal[0], m.Normal[1], m.Normal[2], m.D, m.W}
		y := []int{n.A, n.B, n.Normal[0], n.Normal[1], n.Normal[2], n.D, n.W}
		for k := range x {
			if x[k] != y[k] {
				return cmp.Compare(x[k], y[k])
			}
		}
		return 0
	})
	return indexes[0], p.product(matches[indexes[0]])
}

func checkShifts(t *testing.T, p api.Problem, at place) {
	t.Helper()
	s := at.shifts()
	for i, m := range p.Matches {
		r, err := strip.Residual(p, s, i)
		expect(t, "Residual", r, err, at.residual(m))
	}
	misfit, err := strip.Misfit(p, s)
	expect(t, "Misfit", misfit, err, at.misfit(p.Matches))
	slopes, err := strip.Slopes(p, s)
	isFlat := true
	if len(slopes) != 3*p.Strips {
		t.Fatalf("%d Slopes, error %d", len(slopes), err)
	}
	for i, x := range slopes {
		want := at.slope(p.Matches, i)
		expect(t, "Slopes", x, err, want)
		isFlat = isFlat && want.Sign() == 0
	}
	if ok, err := strip.Minimal(p, s); ok != isFlat || err != api.OK {
		t.Errorf("Minimal of %v, %v = %t, error %d", p, at, ok, err)
	}
	i, product, err := strip.Worst(p, s)
	wantIndex, want := at.plainWorst(p.Matches)
	expect(t, "Worst", product, err, want)
	if i != wantIndex {
		t.Errorf("Worst of %v is %d, want %d", p, i, wantIndex)
	}
}

// P5.4, P5.7, P5.8
func TestShifts(t *testing.T) {
	r := rand.New(rand.NewSource(1))
	for range 3000 {
		p := randomProblem(r)
		checkShifts(t, p, randomPlace(r, p.Strips))
		checkShifts(t, p, nowhere(p.Strips))
	}
	p := fullProblem(r)
	checkShifts(t, p, randomPlace(r, 8))
	for _, p := range goodProblems() {
		checkShifts(t, p, nowhere(p.Strips))
	}
}

// P5.4, P5.8: the example of one strip with two heights.
func TestTwoHeights(t *testing.T) {
	p := problem(1, up(0, -1, 0, 1), up(0, -1, 30, 2))
	at := nowhere(1)
	at[2] = whole(-20)
	for i, want := range []int{-20, 10} {
		r, err := strip.Residual(p, at.shifts(), i)
		expect(t, "Residual", r, err, whole(want))
	}
	misfit, err := strip.Misfit(p, at.shifts())
	expect(t, "Misfit", misfit, err, whole(600))
	i, product, err := strip.Worst(p, at.shifts())
	expect(t, "Worst", product, err, whole(400))
	if i != 0 {
		t.Errorf("Worst is %d", i)
	}
	at[2] = whole(-19)
	slopes, err := strip.Slopes(p, at.shifts())
	if len(slopes) != 3 {
		t.Fatalf("Slopes: %v, error %d", slopes, err)
	}
	expect(t, "Slopes", slopes[2], err, whole(-19+2*11))
}

// P5.8: of equal products the least match by its contents goes first, whatever the others are, and of equal matches the first.
func TestWorstOfEqualProducts(t *testing.T) {
	low := tied(1, 0, [3]int{1, 1, 1}, 2, 4) // the product is 16 at shifts of 0
	greater := []api.Match{
		tied(2, 0, [3]int{-1, 0, 0}, -2, 4), tied(1, 2, [3]int{-1, 0, 0}, -2, 4), tied(1, 0, [3]int{2, -1, -1}, -2, 4),
		tied(1, 0, [3]int{1, 2, -1}, -2, 4), tied(1, 0, [3]int{1, 1, 2}, -2, 4), tied(1, 0, [3]int{1, 1, 1}, 4, 1),
	}
	zero := nowhere(3).shifts()
	expectWorst := func(want int, matches ...api.Match) {
		t.Helper()
		i, product, err := strip.Worst(problem(3, matches...), zero)
		expect(t, "Worst", product, err, whole(16))
		if i != want {
			t.Errorf("Worst of %v is %d, want %d", matches, i, want)
		}
	}
	for _, m := range greater {
		expectWorst(0, low, m)
		expectWorst(1, m, low)
		expectWorst(1, m, low, low, m)
		expectWorst(0, m, m)
	}
	for i, m := range greater {
		for _, n := range greater[i+1:] { // in the order of the list, the first ones are the greater ones
			expectWorst(1, m, n)
			expectWorst(0, n, m)
		}
	}
	expectWorst(0, up(1, -1, 2, 4), low)
	expectWorst(1, tied(1, 0, [3]int{1, 1, 1}, 4, 1), tied(1, 0, [3]int{1, 1, 1}, -4, 1))
	if i, product, err := strip.Worst(problem(2), nowhere(2).shifts()); i != -1 || err != api.OK || !isNumber(product, whole(0)) {
		t.Errorf("Worst without matches = %d, %v, error %d", i, product, err)
	}
	if i, product, err := strip.Worst(problem(1, up(0, -1, 0, 1)), nowhere(1).shifts()); i != 0 || err != api.OK || !isNumber(product, whole(0)) {
		t.Errorf("Worst of a match that fits = %d, %v, error %d", i, product, err)
	}
}

// P5.1, P5.4, R5: only what is given back is limited, not what is formed on the way to it.
func TestLargeOnTheWay(t *testing.T) {
	great := new(big.Rat).SetInt(new(big.Int).Sub(power(8192), big.NewInt(1)))
	p := problem(2, tied(0, 1, [3]int{100, 0, 0}, 7, 1), tied(0, -1, [3]int{0, 1, 0}, 0, 1))
	at := nowhere(2)
	at[0], at[3] = great, great
	checkShifts(t, p, at)
	// With the sides of a right triangle over its longest side, the squares are large, but not their sum.
	m, n := power(4000), big.NewInt(1)
	m2, n2 := new(big.Int).Mul(m, m), new(big.Int).Mul(n, n)
	longest := new(big.Int).Add(m2, n2)
	at = nowhere(1)
	at[0].SetFrac(new(big.Int).Sub(m2, n2), longest)
	at[1].SetFrac(new(big.Int).Mul(m, power(1)), longest)
	p = problem(1, tied(0, -1, [3]int{1, 0, 0}, 0, 1), tied(0, -1, [3]int{0, 1, 0}, 0, 1))
	misfit, err := strip.Misfit(p, at.shifts())
	expect(t, "Misfit", misfit, err, whole(1))
	if i, product, err := strip.Worst(p, at.shifts()); i != 0 || !isZero(product) || err != api.ErrSize {
		t.Errorf("Worst = %d, %v, error %d", i, product, err)
	}
}

// P5.1: numbers of a result that are large, and that are just not large.
func TestLargeResults(t *testing.T) {
	p := problem(1, tied(0, -1, [3]int{2, 0, 0}, 0, 1))
	for _, bits := range []uint{4094, 4095, 8190, 8191} {
		for _, isPart := range []bool{false, true} {
			at := nowhere(1)
			at[0].SetInt(power(bits))
			if isPart {
				at[0].SetFrac(big.NewInt(1), new(big.Int).Sub(power(bits+1), big.NewInt(1))) // the least integer with as many words
			}
			r, err := strip.Residual(p, at.shifts(), 0)
			expectUnlessLarge(t, "Residual", r, err, at.residual(p.Matches[0]))
			r, err = strip.Misfit(p, at.shifts())
			expectUnlessLarge(t, "Misfit", r, err, at.misfit(p.Matches))
			_, r, err = strip.Worst(p, at.shifts())
			expectUnlessLarge(t, "Worst", r, err, at.misfit(p.Matches))
			slopes, err := strip.Slopes(p, at.shifts())
			if want := at.slope(p.Matches, 0); !isLarge(want) {
				expect(t, "Slopes", slopes[0], err, want)
			} else if err != api.ErrSize || !isZero(slopes) {
				t.Errorf("Slopes: %v, error %d", slopes, err)
			}
			if ok, err := strip.Minimal(p, at.shifts()); ok || err != api.OK {
				t.Errorf("Minimal = %t, error %d", ok, err)
			}
		}
	}
}

func isLarge(v *big.Rat) bool {
	return v.Num().BitLen() > 8192 || v.Denom().BitLen() > 8192
}

func expectUnlessLarge(t *testing.T, what string, x api.Rat, err api.Errno, want *big.Rat) {
	t.Helper()
	if !isLarge(want) {
		expect(t, what, x, err, want)
	} else if err != api.ErrSize || !isZero(x) {
		t.Errorf("%s: %v, error %d", what, x, err)
	}
}

// P5.4: numbers may be given by any value that denotes them.
func TestOtherValues(t *testing.T) {
	p := problem(1, tied(0, -1, [3]int{3, 5, 7}, 1, 2))
	s := [][3]api.Rat{{
		{Num: []uint32{4, 0, 0}, Den: []uint32{6, 0}},      // 2/3
		{Neg: true, Den: []uint32{9}},                      // 0
		{Neg: true, Num: []uint32{5}, Den: []uint32{0, 0}}, // -5
	}}
	for range api.MaxWords {
		s[0][0].Num, s[0][1].Den = append(s[0][0].Num, 0), append(s[0][1].Den, 0)
	}
	r, err := strip.Residual(p, s, 0)
	expect(t, "Residual", r, err, whole(2-35+1))
}

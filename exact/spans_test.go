package exact_test

import (
	"math"
	"math/big"
	"math/rand"
	"testing"

	"lidar/api"
	"lidar/exact"
)

func span(lo, hi int) api.Span {
	return api.Span{Lo: lo, Hi: hi}
}

// spans are valid spans, with ends up to MaxNum.
func spans() []api.Span {
	ends := []int{-api.MaxNum, -api.MaxNum + 1, -api.MaxNum / 2, -1 << 32, -1<<30 - 1, -1 << 30, -5, -1, 0, 1, 2, 7, 1<<30 - 1, 1 << 30, 1<<30 + 1, 1 << 32, 1<<32 + 1, api.MaxNum / 2, api.MaxNum - 1, api.MaxNum}
	var list []api.Span
	for i, lo := range ends {
		for _, hi := range ends[i:] {
			list = append(list, span(lo, hi))
		}
	}
	return list
}

var notValid = []api.Span{
	{Lo: 1, Hi: 0},
	{Lo: api.MaxNum, Hi: -api.MaxNum},
	{Lo: -api.MaxNum - 1, Hi: 0},
	{Lo: 0, Hi: api.MaxNum + 1},
	{Lo: api.MaxNum + 1, Hi: api.MaxNum + 1},
	{Lo: -api.MaxNum - 1, Hi: -api.MaxNum - 1},
	{Lo: math.MinInt, Hi: math.MaxInt},
	{Lo: math.MaxInt, Hi: math.MinInt},
	{Lo: math.MinInt, Hi: math.MinInt},
	{Lo: math.MaxInt, Hi: math.MaxInt},
}

// twoSpans are the functions of two spans that return a span.
var twoSpans = map[string]func(a, b api.Span) (api.Span, api.Errno){"Plus": exact.Plus, "Minus": exact.Minus, "Times": exact.Times, "Hull": exact.Hull}

// expectSpan checks a span whose ends may be beyond MaxNum.
func expectSpan(t *testing.T, what string, got api.Span, err api.Errno, lo, hi *big.Int) {
	t.Helper()
	limit := big.NewInt(api.MaxNum)
	if lo.CmpAbs(limit) > 0 || hi.CmpAbs(limit) > 0 {
		if err != api.ErrRange || got != (api.Span{}) {
			t.Errorf("%s: %v, error %d, want ErrRange", what, got, err)
		}
	} else if want := span(int(lo.Int64()), int(hi.Int64())); err != api.OK || got != want {
		t.Errorf("%s: %v, error %d, want %v", what, got, err, want)
	}
}

// P1.8
func TestValid(t *testing.T) {
	for _, s := range spans() {
		if !exact.Valid(s) {
			t.Errorf("%v is not valid", s)
		}
	}
	for _, s := range notValid {
		if exact.Valid(s) {
			t.Errorf("%v is valid", s)
		}
	}
}

// P1.8
func TestCover(t *testing.T) {
	check := func(x, y api.Rat) {
		t.Helper()
		low, high := value(x), value(y)
		if low.Cmp(high) > 0 {
			low, high = high, low
		}
		lo := new(big.Int).Div(low.Num(), low.Denom())
		hi := new(big.Int).Neg(new(big.Int).Div(new(big.Int).Neg(high.Num()), high.Denom()))
		got, err := exact.Cover(x, y)
		expectSpan(t, "Cover of "+low.RatString()+" and "+high.RatString(), got, err, lo, hi)
	}
	list := append(numbers(), zeros()...)
	list = append(list, forms(small(-7, 3))...)
	for _, end := range []int64{-api.MaxNum, api.MaxNum} {
		for num := int64(-3); num <= 3; num++ {
			list = append(list, number(new(big.Rat).Add(big.NewRat(num, 2), big.NewRat(end, 1))))
		}
	}
	for _, x := range list {
		for _, y := range list {
			check(x, y)
		}
	}
}

// leastAndGreatest returns the bounds of the results for all pairs of ends.
func leastAndGreatest(a, b api.Span, operation func(z, x, y *big.Int) *big.Int) (lo, hi *big.Int) {
	for _, x := range []int{a.Lo, a.Hi} {
		for _, y := range []int{b.Lo, b.Hi} {
			z := operation(new(big.Int), big.NewInt(int64(x)), big.NewInt(int64(y)))
			if lo == nil || z.Cmp(lo) < 0 {
				lo = z
			}
			if hi == nil || z.Cmp(hi) > 0 {
				hi = z
			}
		}
	}
	return lo, hi
}

// P1.9, and ErrRange of P1.1: the results of sums, differences and products of all numbers of two spans lie between those of their ends.
func TestPlusMinusTimes(t *testing.T) {
	for _, a := range spans() {
		for _, b := range spans() {
			lo, hi := leastAndGreatest(a, b, (*big.Int).Add)
			got, err := exact.Plus(a, b)
			expectSpan(t, "Plus", got, err, lo, hi)
			lo, hi = leastAndGreatest(a, b, (*big.Int).Sub)
			got, err = exact.Minus(a, b)
			expectSpan(t, "Minus", got, err, lo, hi)
			lo, hi = leastAndGreatest(a, b, (*big.Int).Mul)
			got, err = exact.Times(a, b)
			expectSpan(t, "Times", got, err, lo, hi)
		}
	}
}

// P1.9
func TestOver(t *testing.T) {
	divisors := []int{1, 2, 3, 7, 10, 1 << 30, 1<<30 - 1, api.MaxNum - 1, api.MaxNum, api.MaxNum + 1, math.MaxInt}
	list := spans()
	for lo := -7; lo <= 7; lo++ {
		for hi := lo; hi <= 7; hi++ {
			list = append(list, span(lo, hi))
		}
	}
	for _, a := range list {
		for _, n := range divisors {
			d := big.NewInt(int64(n))
			lo := new(big.Int).Div(big.NewInt(int64(a.Lo)), d)
			hi := new(big.Int).Neg(new(big.Int).Div(big.NewInt(int64(-a.Hi)), d))
			got, err := exact.Over(a, n)
			expectSpan(t, "Over", got, err, lo, hi)
		}
	}
	for _, n := range []int{0, -1, -2, math.MinInt} {
		if got, err := exact.Over(span(2, 4), n); err != api.ErrArg || got != (api.Span{}) {
			t.Errorf("Over by %d: %v, error %d", n, got, err)
		}
	}
}

// P1.10
func TestHullMeetGap(t *testing.T) {
	for _, a := range spans() {
		for _, b := range spans() {
			lo, hi := leastAndGreatest(a, b, func(z, x, _ *big.Int) *big.Int { return z.Set(x) })
			low, high := leastAndGreatest(a, b, func(z, _, y *big.Int) *big.Int { return z.Set(y) })
			if low.Cmp(lo) < 0 {
				lo = low
			}
			if high.Cmp(hi) > 0 {
				hi = high
			}
			got, err := exact.Hull(a, b)
			expectSpan(t, "Hull", got, err, lo, hi)
			checkMeetAndGap(t, a, b)
		}
	}
}

func checkMeetAndGap(t *testing.T, a, b api.Span) {
	t.Helper()
	both, ok, err := exact.Meet(a, b)
	gap, gapErr := exact.Gap(a, b)
	if err != api.OK || gapErr != api.OK {
		t.Fatalf("Meet and Gap of %v and %v: errors %d and %d", a, b, err, gapErr)
	}
	switch {
	case a.Hi < b.Lo:
		if ok || both != (api.Span{}) || gap != b.Lo-a.Hi {
			t.Errorf("Meet of %v and %v: %v, %t; Gap %d", a, b, both, ok, gap)
		}
	case b.Hi < a.Lo:
		if ok || both != (api.Span{}) || gap != a.Lo-b.Hi {
			t.Errorf("Meet of %v and %v: %v, %t; Gap %d", a, b, both, ok, gap)
		}
	default:
		want := a
		if b.Lo > a.Lo {
			want.Lo = b.Lo
		}
		if b.Hi < a.Hi {
			want.Hi = b.Hi
		}
		if !ok || both != want || gap != 0 {
			t.Errorf("Meet of %v and %v: %v, %t; Gap %d", a, b, both, ok, gap)
		}
	}
}

// P1.1, R2: ErrArg comes before ErrRange, whichever span is not valid.
func TestSpansThatAreNotValid(t *testing.T) {
	others := append([]api.Span{{}, span(1, 2), span(-api.MaxNum, api.MaxNum)}, notValid...)
	for _, bad := range notValid {
		for _, other := range others {
			for _, pair := range [][2]api.Span{{bad, other}, {other, bad}} {
				a, b := pair[0], pair[1]
				for name, f := range twoSpans {
					if got, err := f(a, b); err != api.ErrArg || got != (api.Span{}) {
						t.Errorf("%s(%v, %v): %v, error %d", name, a, b, got, err)
					}
				}
				if got, ok, err := exact.Meet(a, b); err != api.ErrArg || ok || got != (api.Span{}) {
					t.Errorf("Meet(%v, %v): %v, %t, error %d", a, b, got, ok, err)
				}
				if gap, err := exact.Gap(a, b); err != api.ErrArg || gap != 0 {
					t.Errorf("Gap(%v, %v): %d, error %d", a, b, gap, err)
				}
			}
		}
		for _, n := range []int{1, 2, math.MaxInt, 0, math.MinInt} {
			if got, err := exact.Over(bad, n); err != api.ErrArg || got != (api.Span{}) {
				t.Errorf("Over(%v, %d): %v, error %d", bad, n, got, err)
			}
		}
	}
}

// contains reports whether a number lies in a span.
func contains(s api.Span, x *big.Rat) bool {
	return big.NewRat(int64(s.Lo), 1).Cmp(x) <= 0 && x.Cmp(big.NewRat(int64(s.Hi), 1)) <= 0
}

// P1.14: the result for every number of the spans is in the result.
func TestContainment(t *testing.T) {
	operations := []struct {
		spans   func(a, b api.Span) (api.Span, api.Errno)
		numbers func(z, x, y *big.Rat) *big.Rat
	}{{exact.Plus, (*big.Rat).Add}, {exact.Minus, (*big.Rat).Sub}, {exact.Times, (*big.Rat).Mul}}
	r := rand.New(rand.NewSource(6))
	for range 3000 {
		a, b := randomSpan(r), randomSpan(r)
		x, y := randomIn(r, a), randomIn(r, b)
		for i, op := range operations {
			got, err := op.spans(a, b)
			if z := op.numbers(new(big.Rat), x, y); err != api.OK || !contains(got, z) {
				t.Errorf("operation %d of %v and %v: %v, error %d, does not contain %s", i, a, b, got, err, z)
			}
		}
		n := 1 + r.Intn(12)
		got, err := exact.Over(a, n)
		if z := new(big.Rat).Quo(x, big.NewRat(int64(n), 1)); err != api.OK || !contains(got, z) {
			t.Errorf("Over(%v, %d): %v, error %d, does not contain %s", a, n, got, err, z)
		}
	}
}

// P1.14: spans inside give a result inside.
func TestIsotone(t *testing.T) {
	r := rand.New(rand.NewSource(7))
	for range 3000 {
		a, b := randomSpan(r), randomSpan(r)
		c, d := randomInside(r, a), randomInside(r, b)
		for name, f := range twoSpans {
			outer, err := f(a, b)
			inner, innerErr := f(c, d)
			if err != api.OK || innerErr != api.OK || inner.Lo < outer.Lo || inner.Hi > outer.Hi {
				t.Errorf("%s of %v and %v is %v, of %v and %v it is %v", name, a, b, outer, c, d, inner)
			}
		}
		n := 1 + r.Intn(12)
		outer, _ := exact.Over(a, n)
		if inner, _ := exact.Over(c, n); inner.Lo < outer.Lo || inner.Hi > outer.Hi {
			t.Errorf("Over(%v, %d) is %v, Over(%v, %d) is %v", a, n, outer, c, n, inner)
		}
	}
}

func randomSpan(r *rand.Rand) api.Span {
	limit := []int{5, 100, 1 << 29}[r.Intn(3)]
	lo := r.Intn(2*limit+1) - limit
	return span(lo, lo+r.Intn(limit))
}

// randomIn returns a number of a span, often an end or a fraction.
func randomIn(r *rand.Rand, s api.Span) *big.Rat {
	parts := int64(1 + r.Intn(4))
	offset := big.NewRat(int64(s.Hi-s.Lo)*int64(r.Intn(int(parts)+1)), parts)
	return offset.Add(offset, big.NewRat(int64(s.Lo), 1))
}

func randomInside(r *rand.Rand, s api.Span) api.Span {
	lo := s.Lo + r.Intn(s.Hi-s.Lo+1)
	return span(lo, lo+r.Intn(s.Hi-lo+1))
}

package strip_test

import (
	"math/big"
	"math/rand"
	"slices"
	"testing"

	"lidar/api"
	"lidar/strip"
)

// plainGroups finds what is connected by one match, two, and so on; the ground has the number behind the strips.
func plainGroups(p api.Problem) []int {
	var connected [9][9]bool
	ground := p.Strips
	for i := range ground {
		connected[i][i] = true
	}
	for _, m := range p.Matches {
		b := m.B
		if b < 0 {
			b = ground
		}
		connected[m.A][b], connected[b][m.A] = true, true
	}
	for by := range ground { // not through the ground
		for i := range ground + 1 {
			for j := range ground + 1 {
				connected[i][j] = connected[i][j] || connected[i][by] && connected[by][j]
			}
		}
	}
	var groups []int
	for i := range ground {
		name := slices.Index(connected[i][:], true)
		if connected[i][ground] {
			name = -1
		}
		groups = append(groups, name)
	}
	return groups
}

// P5.10
func TestGroups(t *testing.T) {
	check := func(p api.Problem) {
		t.Helper()
		if got, err := strip.Groups(p); err != api.OK || !slices.Equal(got, plainGroups(p)) {
			t.Errorf("Groups of %v = %v, error %d, want %v", p, got, err, plainGroups(p))
		}
	}
	r := rand.New(rand.NewSource(1))
	for range 20000 {
		p := problem(1 + r.Intn(8))
		for range r.Intn(8) {
			m := randomMatch(r, p.Strips, 1, 1)
			if m.B == -1 && r.Intn(3) > 0 {
				continue
			}
			p.Matches = append(p.Matches, m)
		}
		check(p)
	}
	check(problem(8, up(0, 7, 0, 1), up(6, 7, 0, 1), up(5, 6, 0, 1), up(1, 2, 0, 1), up(4, 3, 0, 1), up(3, 2, 0, 1)))
	check(problem(5, up(3, 1, 0, 1), up(2, 4, 0, 1), up(4, -1, 0, 1)))
	check(problem(4, up(0, -1, 0, 1), up(3, -1, 0, 1), up(1, 2, 0, 1))) // the ground connects no strips
	check(problem(3, up(2, -1, 0, 1), up(2, 1, 0, 1), up(1, 0, 0, 1)))
	for _, p := range goodProblems() {
		check(p)
	}
}

// plainMove returns the span after a shift, if it is one.
func plainMove(s api.Span, by *big.Rat) (api.Span, bool) {
	lo, hi := plus(whole(s.Lo), by), plus(whole(s.Hi), by)
	first := new(big.Int).Div(lo.Num(), lo.Denom()) // rounded down
	last := new(big.Int).Neg(new(big.Int).Div(new(big.Int).Neg(hi.Num()), hi.Denom()))
	if first.CmpAbs(power(60)) > 0 || last.CmpAbs(power(60)) > 0 {
		return api.Span{}, false
	}
	return api.Span{Lo: int(first.Int64()), Hi: int(last.Int64())}, true
}

func checkMove(t *testing.T, spans [3]api.Span, by place) {
	t.Helper()
	want, wantErr := [3]api.Span{}, api.OK
	for k, s := range spans {
		moved, ok := plainMove(s, by[k])
		want[k] = moved
		if !ok {
			wantErr = api.ErrRange
		}
	}
	if wantErr != api.OK {
		want = [3]api.Span{}
	}
	got, err := strip.Move(api.Box{X: spans[0], Y: spans[1], Z: spans[2]}, by.shifts()[0])
	if err != wantErr || [3]api.Span{got.X, got.Y, got.Z} != want {
		t.Errorf("Move of %v by %v = %v, error %d, want %v, error %d", spans, by, got, err, want, wantErr)
	}
}

// P5.11, also where the shift is beyond what a span may contain.
func TestMove(t *testing.T) {
	var spans []api.Span
	ends := []int{-1 << 60, -1<<60 + 1, -5, 0, 3, 1<<60 - 1, 1 << 60}
	for i, lo := range ends {
		for _, hi := range ends[i:] {
			spans = append(spans, api.Span{Lo: lo, Hi: hi})
		}
	}
	great := new(big.Int).Sub(power(8192), big.NewInt(1))
	var numbers []*big.Rat
	for _, n := range []*big.Int{new(big.Int), big.NewInt(1), big.NewInt(7), power(60), power(61), power(63), power(64), power(65), great} {
		for _, d := range []*big.Int{big.NewInt(1), big.NewInt(2), big.NewInt(5), power(60), new(big.Int).Sub(great, big.NewInt(2))} {
			numbers = append(numbers, new(big.Rat).SetFrac(n, d), new(big.Rat).SetFrac(new(big.Int).Neg(n), d))
		}
	}
	for _, s := range spans {
		for _, v := range numbers {
			for k := range 3 {
				at, all := nowhere(1), [3]api.Span{{Lo: 1, Hi: 2}, {Lo: 3, Hi: 4}, {Lo: 5, Hi: 6}}
				at[k], all[k] = v, s
				checkMove(t, all, at)
			}
		}
	}
	r := rand.New(rand.NewSource(2))
	for range 5000 {
		checkMove(t, [3]api.Span{spans[r.Intn(len(spans))], spans[r.Intn(len(spans))], spans[r.Intn(len(spans))]}, randomPlace(r, 1))
	}
}

// P5.11: errors in their order.
func TestMoveErrors(t *testing.T) {
	large := api.Rat{Num: make([]uint32, 257)}
	large.Num[256] = 1
	small := api.Rat{Num: []uint32{2}, Den: append(large.Num, 0)}
	far := api.Rat{Num: []uint32{0, 1 << 31}}
	good := api.Span{Lo: 1, Hi: 2}
	for _, bad := range []api.Span{{Lo: 2, Hi: 1}, {Lo: -1<<60 - 1}, {Hi: 1<<60 + 1}, {Lo: -1 << 63, Hi: 1<<63 - 1}} {
		for _, x := range []api.Rat{{}, large, far} {
			for k := range 3 {
				spans := [3]api.Span{good, good, good}
				spans[k] = bad
				if b, err := strip.Move(api.Box{X: spans[0], Y: spans[1], Z: spans[2]}, [3]api.Rat{x, x, x}); err != api.ErrArg || b != (api.Box{}) {
					t.Errorf("Move of %v = %v, error %d", spans, b, err)
				}
			}
		}
	}
	for _, bad := range []api.Rat{large, small} {
		for _, x := range []api.Rat{{}, far} {
			for k := range 3 {
				shift := [3]api.Rat{x, x, x}
				shift[k] = bad
				if b, err := strip.Move(api.Box{X: good, Y: good, Z: good}, shift); err != api.ErrShift || b != (api.Box{}) {
					t.Errorf("Move by a large number = %v, error %d", b, err)
				}
			}
		}
	}
}

// P5.17
func TestMovedPoints(t *testing.T) {
	r := rand.New(rand.NewSource(3))
	for range 1000 {
		var spans, want [3]api.Span
		by, at := nowhere(1), [3]int{}
		for k := range spans {
			n := randomBelow(r, 1<<30)
			lo := randomBelow(r, 1<<30)
			spans[k] = api.Span{Lo: lo, Hi: lo + r.Intn(100)}
			at[k] = lo + r.Intn(spans[k].Hi-lo+1) + n
			by[k] = whole(n)
			want[k] = api.Span{Lo: lo + n, Hi: spans[k].Hi + n}
		}
		b, err := strip.Move(api.Box{X: spans[0], Y: spans[1], Z: spans[2]}, by.shifts()[0])
		for k, s := range [3]api.Span{b.X, b.Y, b.Z} {
			if err != api.OK || s != want[k] || at[k] < s.Lo || at[k] > s.Hi {
				t.Errorf("Move of %v by %v = %v, error %d", spans, by, b, err)
			}
		}
	}
}

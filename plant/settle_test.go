package plant_test

import (
	"math/big"
	"math/rand"
	"slices"
	"testing"

	"lidar/api"
	"lidar/exact"
	"lidar/plant"
	"lidar/track"
	"lidar/wave"
)

const most = 1 << 60 // the greatest end of a span

func integer(n int) *big.Rat {
	return new(big.Rat).SetInt64(int64(n))
}

// value returns the number that a Rat denotes.
func value(x api.Rat) *big.Rat {
	whole := func(words []uint32) *big.Int {
		n := new(big.Int)
		for _, w := range slices.Backward(words) {
			n.Lsh(n, 32)
			n.Add(n, big.NewInt(int64(w)))
		}
		return n
	}
	den := whole(x.Den)
	if den.Sign() == 0 {
		den.SetInt64(1)
	}
	v := new(big.Rat).SetFrac(whole(x.Num), den)
	if x.Neg {
		v.Neg(v)
	}
	return v
}

func ratio(a, b int) api.Rat {
	x, _ := exact.Ratio(a, b)
	return x
}

// floor returns the greatest integer that is not greater than x.
func floor(x *big.Rat) *big.Int {
	return new(big.Int).Div(x.Num(), x.Denom())
}

func ceil(x *big.Rat) *big.Int {
	n := floor(new(big.Rat).Neg(x))
	return n.Neg(n)
}

func isWithin(n *big.Int, least, greatest int) bool {
	return n.Cmp(big.NewInt(int64(least))) >= 0 && n.Cmp(big.NewInt(int64(greatest))) <= 0
}

// plainPoint forms the point of a shot with numbers without a limit, if there is one.
func plainPoint(s api.Shot, t [3]api.Rat) (api.Point, bool) {
	var lo, hi [3]*big.Int
	for k, span := range [3]api.Span{s.Box.X, s.Box.Y, s.Box.Z} {
		if len(t[k].Num) > 256 || span.Lo > span.Hi || span.Lo < -most || span.Hi > most {
			return api.Point{}, false
		}
		lo[k] = floor(new(big.Rat).Add(integer(span.Lo), value(t[k])))
		hi[k] = ceil(new(big.Rat).Add(integer(span.Hi), value(t[k])))
		if !isWithin(lo[k], -most, most) || !isWithin(hi[k], -most, most) {
			return api.Point{}, false
		}
	}
	middle := func(k int) *big.Int {
		return floor(new(big.Rat).SetFrac(new(big.Int).Add(lo[k], hi[k]), big.NewInt(2)))
	}
	wide := new(big.Int)
	for k := range 2 {
		half := ceil(new(big.Rat).SetFrac(new(big.Int).Sub(hi[k], lo[k]), big.NewInt(2)))
		if half.Cmp(wide) > 0 {
			wide = half
		}
	}
	for _, n := range []*big.Int{middle(0), middle(1), lo[2], hi[2], wide} {
		if !isWithin(n, -limit, limit) {
			return api.Point{}, false
		}
	}
	p := api.Point{
		Id: s.Id, X: int(middle(0).Int64()), Y: int(middle(1).Int64()), Z: api.Span{Lo: int(lo[2].Int64()), Hi: int(hi[2].Int64())},
		Wide: int(wide.Int64()), Num: s.Num, Of: s.Of,
	}
	return p, 0 <= p.Id && p.Id <= most && 1 <= p.Num && p.Num <= p.Of && p.Of <= 15
}

func plainSettle(shots []api.Shot, t [][3]api.Rat) ([]api.Point, int) {
	var points []api.Point
	for _, s := range shots {
		if p, ok := plainPoint(s, t[s.Strip]); ok {
			points = append(points, p)
		}
	}
	return sortedById(points), len(shots) - len(points)
}

func randomSpan(r *rand.Rand, side int) api.Span {
	lo := r.Intn(2*side+1) - side
	s := api.Span{Lo: lo, Hi: min(lo+r.Intn(side)>>r.Intn(9), side)}
	switch r.Intn(90) {
	case 0:
		s.Hi = lo - 1
	case 1:
		s.Hi = most + 1
	case 2:
		s.Lo = -most - 1
	}
	return s
}

func randomShots(r *rand.Rand, n, strips int) []api.Shot {
	var shots []api.Shot
	for _, id := range r.Perm(3 * n)[:n] {
		side := []int{3, 100, 1000, limit / 2, limit, most}[r.Intn(6)]
		s := api.Shot{Id: id - n/9, Strip: r.Intn(strips), Top: r.Intn(1024), Box: api.Box{X: randomSpan(r, side), Y: randomSpan(r, side), Z: randomSpan(r, side)}}
		s.Of = 1 + r.Intn(15)
		s.Num = 1 + r.Intn(s.Of)
		switch r.Intn(20) {
		case 0:
			s.Num = r.Intn(20) - 2
		case 1:
			s.Of = r.Intn(20) - 2
		}
		shots = append(shots, s)
	}
	shots[0].Id = most + r.Intn(2)
	return shots
}

func randomShifts(r *rand.Rand, n int) [][3]api.Rat {
	t := make([][3]api.Rat, n)
	for i := range t {
		for k := range t[i] {
			side := []int{5, 9, 99, 1000, limit, 1 << 50}[r.Intn(12)%7%6]
			t[i][k] = ratio(r.Intn(2*side+1)-side, 1+r.Intn(9))
		}
	}
	if r.Intn(4) == 0 {
		t[0][r.Intn(3)] = api.Rat{Num: make([]uint32, 255+r.Intn(2)), Den: []uint32{0, 0}} // 0, in many words
	}
	if r.Intn(9) == 0 {
		t[0][r.Intn(3)] = api.Rat{Num: slices.Repeat([]uint32{1}, 257)} // large
	}
	return t
}

// P10.4
func TestSettle(t *testing.T) {
	r := rand.New(rand.NewSource(11))
	all, without := 0, 0
	for range 400 {
		shots, shifts := randomShots(r, 1+r.Intn(40), 3), randomShifts(r, 3)
		points, none, err := plant.Settle(shots, shifts)
		want, wantNone := plainSettle(shots, shifts)
		expect(t, "the error of Settle", err, api.OK)
		expect(t, "the points", points, want)
		expect(t, "the number of shots without a point", none, wantNone)
		all, without = all+len(shots), without+none
	}
	if without < all/4 || without > all/4*3 {
		t.Errorf("%d of %d shots have no point", without, all)
	}
}

// P10.4: halves of negative and odd numbers, and the greater one of both widths.
func TestHalves(t *testing.T) {
	for _, c := range []struct {
		x, y       api.Span
		shift      api.Rat
		wantX, hal int
	}{
		{api.Span{Lo: 2, Hi: 5}, api.Span{}, api.Rat{}, 3, 2},
		{api.Span{Lo: -5, Hi: -2}, api.Span{}, api.Rat{}, -4, 2},
		{api.Span{Lo: -3, Hi: 2}, api.Span{Lo: 1, Hi: 8}, api.Rat{}, -1, 4},
		{api.Span{Lo: 7, Hi: 7}, api.Span{Lo: 1, Hi: 1}, api.Rat{}, 7, 0},
		{api.Span{Lo: 7, Hi: 7}, api.Span{Lo: 1, Hi: 1}, ratio(1, 3), 7, 1},
		{api.Span{Lo: -4, Hi: 3}, api.Span{}, ratio(1, 2), 0, 4},
		{api.Span{Lo: -4, Hi: 3}, api.Span{}, ratio(-1, 2), -1, 4},
		{api.Span{Lo: -limit, Hi: limit}, api.Span{}, api.Rat{}, 0, limit},
	} {
		shot := api.Shot{Id: 3, Num: 2, Of: 3, Top: 9, Box: api.Box{X: c.x, Y: c.y, Z: api.Span{Lo: -1, Hi: 4}}}
		points, none, err := plant.Settle([]api.Shot{shot}, [][3]api.Rat{{c.shift}})
		want := api.Point{Id: 3, X: c.wantX, Y: (c.y.Lo + c.y.Hi) / 2, Z: shot.Box.Z, Wide: c.hal, Num: 2, Of: 3}
		if err != api.OK || none != 0 || !slices.Equal(points, []api.Point{want}) {
			t.Errorf("Settle of %v, shifted by %v: %v, %d, error %d, not %v", shot, c.shift, points, none, err, want)
		}
	}
}

// P10.4: errors in their order; shots without a point do not count as points.
func TestSettleErrors(t *testing.T) {
	many := func(n int) []api.Shot {
		var shots []api.Shot
		for i := range n {
			shots = append(shots, api.Shot{Id: i, Strip: i % 2, Num: 1, Of: 1})
		}
		return shots
	}
	bad := func(shots []api.Shot, i int) []api.Shot {
		shots[i].Num = 0
		return shots
	}
	twice := func(shots []api.Shot) []api.Shot { return append(shots, shots[0]) }
	on := func(strip int, shots []api.Shot) []api.Shot {
		shots[len(shots)-1].Strip = strip
		return shots
	}
	for name, c := range map[string]struct {
		shots  []api.Shot
		want   api.Errno
		points int
	}{
		"nothing":               {nil, api.OK, 0},
		"1024":                  {many(1024), api.OK, 1024},
		"1025":                  {many(1025), api.ErrCount, 0},
		"1025 and a bad one":    {bad(many(1025), 7), api.OK, 1024},
		"1025, the last bad":    {bad(many(1025), 1024), api.OK, 1024},
		"1026 and a bad one":    {bad(many(1026), 7), api.ErrCount, 0},
		"one twice":             {twice(many(3)), api.ErrArg, 0},
		"a bad one twice":       {twice(bad(many(3), 0)), api.ErrArg, 0},
		"too many, one twice":   {twice(many(1025)), api.ErrArg, 0},
		"no such strip":         {on(2, many(3)), api.ErrArg, 0},
		"a negative strip":      {on(-1, many(3)), api.ErrArg, 0},
		"a strip far away":      {on(-1<<63, many(3)), api.ErrArg, 0},
		"too many, and a strip": {on(2, many(1026)), api.ErrArg, 0},
	} {
		points, none, err := plant.Settle(c.shots, make([][3]api.Rat, 2))
		if err != c.want || len(points) != c.points || err == api.OK && none != len(c.shots)-c.points || err != api.OK && none != 0 {
			t.Errorf("%s: Settle: %d points, %d, error %d", name, len(points), none, err)
		}
	}
	if _, _, err := plant.Settle(many(1), nil); err != api.ErrArg {
		t.Errorf("Settle without shifts: error %d", err)
	}
}

// within returns an integer or fraction in a span.
func within(r *rand.Rand, s api.Span) *big.Rat {
	if r.Intn(3) == 0 {
		return integer([]int{s.Lo, s.Hi}[r.Intn(2)])
	}
	part := new(big.Rat).SetFrac64(int64(r.Intn(8)), 7)
	part.Mul(part, integer(s.Hi-s.Lo))
	return part.Add(part, integer(s.Lo))
}

func isIn(x *big.Rat, s api.Span) bool {
	return x.Cmp(integer(s.Lo)) >= 0 && x.Cmp(integer(s.Hi)) <= 0
}

// P10.23, P3: what is in the bounds of a return is in the box of its shot, and with the shift of its strip within the bounds of its point.
func TestBounds(t *testing.T) {
	r := rand.New(rand.NewSource(12))
	checked := 0
	for range 60 {
		s, c := messy(r, 12), config(1)
		shots, _ := shotsOf(t, 0, s, c)
		shifts := [][3]api.Rat{{ratio(r.Intn(999)-500, 1+r.Intn(9)), ratio(r.Intn(99), 7), ratio(-r.Intn(99), 3)}}
		points, _, _ := plant.Settle(shots, shifts)
		for _, p := range s.Pulses {
			returns, _ := wave.Returns(p.Pulse, c.Detector)
			for _, ret := range returns {
				id := p.Seq*16 + ret.Num
				i := slices.IndexFunc(shots, func(s api.Shot) bool { return s.Id == id })
				if i < 0 {
					continue
				}
				_, pose, _ := plainBox(s, c.Motion, p.Pulse, ret)
				expectBounds(t, r, pose, p.Pulse.Scan, ret.Range, shots[i].Box, points[i], shifts[0])
				checked++
			}
		}
	}
	if checked < 500 {
		t.Errorf("only %d returns were checked", checked)
	}
}

func expectBounds(t *testing.T, r *rand.Rand, pose api.Pose, scan [4]int, span api.Span, box api.Box, p api.Point, shift [3]api.Rat) {
	t.Helper()
	turn, _ := track.Product(pose.Quat, scan)
	beam, n, _ := track.Beam(turn)
	far := within(r, span)
	boxes := [3]api.Span{box.X, box.Y, box.Z}
	point := [3]api.Span{{Lo: p.X - p.Wide, Hi: p.X + p.Wide}, {Lo: p.Y - p.Wide, Hi: p.Y + p.Wide}, p.Z}
	for k := range 3 {
		x := new(big.Rat).Mul(far, new(big.Rat).SetFrac64(int64(beam[k]), int64(n)))
		x.Add(x, within(r, pose.Pos[k]))
		if !isIn(x, boxes[k]) {
			t.Fatalf("the coordinate %d, %v, is not in the box %v", k, x, box)
		}
		if x.Add(x, value(shift[k])); !isIn(x, point[k]) {
			t.Fatalf("the coordinate %d, %v, is not within the bounds of the point %v", k, x, p)
		}
	}
}

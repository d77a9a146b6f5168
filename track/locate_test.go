package track_test

import (
	"math/big"
	"math/rand"
	"testing"

	"lidar/api"
	"lidar/track"
)

// norm returns the sum of the squares.
func norm(q [4]int) int {
	return q[0]*q[0] + q[1]*q[1] + q[2]*q[2] + q[3]*q[3]
}

// rotated returns norm(q) times the vector to which the rotation q takes v, by the matrix of the rotation.
func rotated(q [4]int, v [3]int) [3]int {
	w, x, y, z := q[0], q[1], q[2], q[3]
	rows := [3][3]int{
		{w*w + x*x - y*y - z*z, 2 * (x*y - w*z), 2 * (x*z + w*y)},
		{2 * (x*y + w*z), w*w - x*x + y*y - z*z, 2 * (y*z - w*x)},
		{2 * (x*z - w*y), 2 * (y*z + w*x), w*w - x*x - y*y + z*z},
	}
	var out [3]int
	for i, row := range rows {
		out[i] = row[0]*v[0] + row[1]*v[1] + row[2]*v[2]
	}
	return out
}

// P4.10: examples, among them the products of the units.
func TestProduct(t *testing.T) {
	one, i, j, k := [4]int{1, 0, 0, 0}, [4]int{0, 1, 0, 0}, [4]int{0, 0, 1, 0}, [4]int{0, 0, 0, 1}
	less := func(q [4]int) [4]int { return [4]int{-q[0], -q[1], -q[2], -q[3]} }
	for _, c := range []struct{ p, q, want [4]int }{
		{one, one, one}, {one, i, i}, {i, one, i}, {one, j, j}, {j, one, j}, {one, k, k}, {k, one, k},
		{i, i, less(one)}, {j, j, less(one)}, {k, k, less(one)},
		{i, j, k}, {j, k, i}, {k, i, j}, {j, i, less(k)}, {k, j, less(i)}, {i, k, less(j)},
		{[4]int{1, 2, 3, 4}, [4]int{5, 6, 7, 8}, [4]int{-60, 12, 30, 24}},
		{[4]int{}, [4]int{5, 6, 7, 8}, [4]int{}},
		{[4]int{5, 6, 7, 8}, [4]int{}, [4]int{}},
		{[4]int{1000, 1000, 1000, 1000}, [4]int{1000, -1000, -1000, -1000}, [4]int{4000000, 0, 0, 0}},
		{[4]int{-1000, 1000, -1000, 1000}, [4]int{1000, 1000, -1000, 1000}, [4]int{-4000000, 0, 0, 0}},
	} {
		if got, err := track.Product(c.p, c.q); err != api.OK || got != c.want {
			t.Errorf("Product of %v and %v = %v, error %d, want %v", c.p, c.q, got, err, c.want)
		}
	}
	for at := range 4 {
		for _, n := range beyond(-1000, 1000) {
			bad := [4]int{1, 2, 3, 4}
			bad[at] = n
			for _, pair := range [][2][4]int{{bad, one}, {one, bad}, {bad, bad}, {bad, {}}} {
				if got, err := track.Product(pair[0], pair[1]); err != api.ErrTurn || got != [4]int{} {
					t.Errorf("Product of %v = %v, error %d", pair, got, err)
				}
			}
		}
	}
}

// P4.10, P4.17
func TestBeam(t *testing.T) {
	expect := func(q [4]int) {
		t.Helper()
		v, n, err := track.Beam(q)
		if err != api.OK || v != rotated(q, [3]int{0, 0, -1}) || n != norm(q) {
			t.Errorf("Beam of %v = %v, %d, error %d", q, v, n, err)
		}
		squares, square := new(big.Int), new(big.Int)
		for _, x := range v {
			squares.Add(squares, square.Mul(big.NewInt(int64(x)), big.NewInt(int64(x))))
		}
		if squares.Cmp(square.Mul(big.NewInt(int64(n)), big.NewInt(int64(n)))) != 0 {
			t.Errorf("Beam of %v = %v, %d has another length", q, v, n)
		}
	}
	allLists(4, 6, func(list []int) {
		if len(list) == 4 && (list[0] != 3 || list[1] != 3 || list[2] != 3 || list[3] != 3) {
			expect([4]int{list[0] - 3, list[1] - 3, list[2] - 3, list[3] - 3})
		}
	})
	r := rand.New(rand.NewSource(1))
	for range 1000 {
		q := [4]int{1 + r.Intn(4000000)}
		for i := range 3 {
			q[i+1] = randomBelow(r, 4000000)
		}
		expect(q)
	}
	expect([4]int{4000000, -4000000, 4000000, -4000000})
	for at := range 4 {
		for _, n := range []int{-4000000, 4000000} {
			q := [4]int{1, 2, 3, 4}
			q[at] = n
			expect(q)
		}
		for _, n := range beyond(-4000000, 4000000) {
			q := [4]int{1, 2, 3, 4}
			q[at] = n
			if v, n, err := track.Beam(q); err != api.ErrTurn || v != [3]int{} || n != 0 {
				t.Errorf("Beam of %v = %v, %d, error %d", q, v, n, err)
			}
		}
	}
	if v, n, err := track.Beam([4]int{}); err != api.ErrTurn || v != [3]int{} || n != 0 {
		t.Errorf("Beam of 0 = %v, %d, error %d", v, n, err)
	}
}

// P4.10: examples of the document, without reduction.
func TestBeamExamples(t *testing.T) {
	for _, c := range []struct {
		q    [4]int
		want [3]int
		n    int
	}{{unturned, [3]int{0, 0, -1}, 1}, {[4]int{1, 1, 0, 0}, [3]int{0, 2, 0}, 2}, {[4]int{1, 0, 1, 0}, [3]int{-2, 0, 0}, 2}, {[4]int{0, 1, 0, 0}, [3]int{0, 0, 1}, 1}, {[4]int{0, 0, 0, -5}, [3]int{0, 0, -25}, 25}, {[4]int{10, 0, 0, 0}, [3]int{0, 0, -100}, 100}} {
		if v, n, err := track.Beam(c.q); err != api.OK || v != c.want || n != c.n {
			t.Errorf("Beam of %v = %v, %d, error %d, want %v, %d", c.q, v, n, err, c.want, c.n)
		}
	}
}

// P4.17
func TestRotations(t *testing.T) {
	r := rand.New(rand.NewSource(2))
	for range 2000 {
		p, q := randomTurn(r), randomTurn(r)
		both, err := track.Product(p, q)
		if err != api.OK {
			t.Fatalf("Product of %v and %v: error %d", p, q, err)
		}
		v, n, _ := track.Beam(q)
		w, m, err := track.Beam(both)
		if err != api.OK || w != rotated(p, v) || m != norm(p)*n {
			t.Errorf("Beam of %v * %v = %v, %d, error %d, but that of %v is %v, %d", p, q, w, m, err, q, v, n)
		}
		times := (1 + r.Intn(1000)) * (1 - 2*r.Intn(2))
		more, scale, _ := track.Beam([4]int{q[0] * times, q[1] * times, q[2] * times, q[3] * times})
		for i := range 3 {
			if ratio(more[i], scale).Cmp(ratio(v[i], n)) != 0 {
				t.Errorf("%d times %v has the beam %v, %d", times, q, more, scale)
			}
		}
	}
}

// plainBox returns the box of P4.11, of valid arguments.
func plainBox(p api.Pose, scan [4]int, r api.Span) (api.Box, api.Errno) {
	q, _ := track.Product(p.Quat, scan)
	direction := rotated(q, [3]int{0, 0, -1})
	var spans [3]api.Span
	for i, k := range direction {
		at := func(c, s int) *big.Rat { return plus(whole(c), times(whole(s), ratio(k, norm(q)))) }
		corners := []*big.Rat{at(p.Pos[i].Lo, r.Lo), at(p.Pos[i].Lo, r.Hi), at(p.Pos[i].Hi, r.Lo), at(p.Pos[i].Hi, r.Hi)}
		s := api.Span{Lo: floor(corners[0]), Hi: ceil(corners[0])}
		for _, c := range corners {
			s = api.Span{Lo: min(s.Lo, floor(c)), Hi: max(s.Hi, ceil(c))}
		}
		spans[i] = wider(s, millionth(p.Tilt, r.Hi))
		if spans[i].Lo < -1<<28 || spans[i].Hi > 1<<28 {
			return api.Box{}, api.ErrRange
		}
	}
	return api.Box{X: spans[0], Y: spans[1], Z: spans[2]}, api.OK
}

func expectBox(t *testing.T, p api.Pose, scan [4]int, r api.Span) {
	t.Helper()
	want, wantErr := plainBox(p, scan, r)
	if got, err := track.Locate(p, scan, r); err != wantErr || got != want {
		t.Errorf("Locate of %v, %v, %v = %v, error %d, want %v, error %d", p, scan, r, got, err, want, wantErr)
	}
}

// posed returns a pose whose three spans are the same.
func posed(lo, hi int) api.Pose {
	s := api.Span{Lo: lo, Hi: hi}
	return api.Pose{Pos: [3]api.Span{s, s, s}, Quat: unturned}
}

// P4.11: examples
func TestLocateExamples(t *testing.T) {
	high := posed(0, 0)
	high.Pos[2] = api.Span{Lo: 1000, Hi: 1000}
	tilted := high
	tilted.Tilt = 2001
	turned := posed(5, 8)
	turned.Quat = [4]int{2, 1, 0, 0} // the beam is (0, 4/5, -3/5)
	for _, c := range []struct {
		p    api.Pose
		scan [4]int
		r    api.Span
		want api.Box
	}{
		{high, [4]int{1, 1, 0, 0}, api.Span{Lo: 500, Hi: 502}, api.Box{Y: api.Span{Lo: 500, Hi: 502}, Z: api.Span{Lo: 1000, Hi: 1000}}},
		{tilted, unturned, api.Span{Lo: 500, Hi: 502}, api.Box{X: api.Span{Lo: -2, Hi: 2}, Y: api.Span{Lo: -2, Hi: 2}, Z: api.Span{Lo: 496, Hi: 502}}},
		{tilted, unturned, api.Span{Lo: 0, Hi: 0}, api.Box{Z: api.Span{Lo: 1000, Hi: 1000}}},
		{turned, unturned, api.Span{Lo: 10, Hi: 11}, api.Box{X: api.Span{Lo: 5, Hi: 8}, Y: api.Span{Lo: 13, Hi: 17}, Z: api.Span{Lo: -2, Hi: 2}}},
		{turned, unturned, api.Span{Lo: 11, Hi: 11}, api.Box{X: api.Span{Lo: 5, Hi: 8}, Y: api.Span{Lo: 13, Hi: 17}, Z: api.Span{Lo: -2, Hi: 2}}},
	} {
		if got, err := track.Locate(c.p, c.scan, c.r); err != api.OK || got != c.want {
			t.Errorf("Locate of %v, %v, %v = %v, error %d, want %v", c.p, c.scan, c.r, got, err, c.want)
		}
	}
}

func randomPose(r *rand.Rand, most int) api.Pose {
	p := api.Pose{Quat: randomTurn(r), Tilt: r.Intn(1<<31+1) >> r.Intn(32)}
	for i := range p.Pos {
		x, y := randomBelow(r, most), randomBelow(r, most)
		p.Pos[i] = api.Span{Lo: min(x, y), Hi: max(x, y)}
	}
	return p
}

func randomRange(r *rand.Rand) api.Span {
	x, y := r.Intn(1<<22+1)>>r.Intn(23), r.Intn(1<<22+1)
	return api.Span{Lo: min(x, y), Hi: max(x, y)}
}

// P4.11
func TestLocate(t *testing.T) {
	r := rand.New(rand.NewSource(3))
	for range 5000 {
		expectBox(t, randomPose(r, 1<<27), randomTurn(r), randomRange(r))
		expectBox(t, randomPose(r, 1<<28), randomTurn(r), randomRange(r))
	}
}

// P4.11, R5: the products of numerators and ranges that do not fit into an int.
func TestGreatestProducts(t *testing.T) {
	for _, scan := range [][4]int{{1000, 1000, 1000, 1000}, {1000, -1000, 1000, 1000}, {1000, 1000, -1000, 999}, {1000, 0, 0, 0}, {999, 998, 997, 996}} {
		for _, quat := range [][4]int{{1000, 1000, 1000, 1000}, {-1000, 1000, 1000, 1000}, {999, 1000, -1000, -999}, {1000, 997, 1, 2}} {
			p := posed(-1, 1)
			p.Quat = quat
			for _, s := range []int{1 << 22, 1<<22 - 1, 1 << 19, 576460, 576461, 1152921, 1152922} {
				expectBox(t, p, scan, api.Span{Lo: s, Hi: s})
				expectBox(t, p, scan, api.Span{Lo: 0, Hi: s})
			}
		}
	}
}

// P4.11: both sides of each limit.
func TestLocateLimits(t *testing.T) {
	const most = 1 << 28
	up := [4]int{0, 1, 0, 0} // the beam is (0, 0, 1)
	for _, c := range []struct {
		lo, hi int
		tilt   int
		scan   [4]int
		r      api.Span
		want   api.Errno
	}{
		{-most, most, 0, unturned, api.Span{}, api.OK},
		{-most, most, 1 << 31, unturned, api.Span{}, api.OK},
		{-most, most, 1, unturned, api.Span{Hi: 1}, api.ErrRange},
		{0, most, 0, unturned, api.Span{Hi: 5}, api.OK},
		{0, most, 0, up, api.Span{Hi: 5}, api.ErrRange},
		{5 - most, 0, 0, unturned, api.Span{Hi: 5}, api.OK},
		{4 - most, 0, 0, unturned, api.Span{Hi: 5}, api.ErrRange},
		{0, most - 5, 0, up, api.Span{Hi: 5}, api.OK},
		{0, most - 4, 0, up, api.Span{Hi: 5}, api.ErrRange},
		{0, most - 1, 1000000, unturned, api.Span{Lo: 1, Hi: 1}, api.OK},
		{0, most - 1, 1000001, unturned, api.Span{Lo: 1, Hi: 1}, api.ErrRange},
		{2 - most, 0, 1000000, unturned, api.Span{Lo: 1, Hi: 1}, api.OK},
		{1 - most, 0, 1000000, unturned, api.Span{Lo: 1, Hi: 1}, api.ErrRange},
		{0, 0, 1 << 31, unturned, api.Span{Hi: 1 << 22}, api.ErrRange},
		{0, 0, 1 << 31, unturned, api.Span{Hi: 1 << 16}, api.OK},
		{0, 0, 0, up, api.Span{Hi: 1 << 22}, api.OK},
	} {
		p := posed(c.lo, c.hi)
		p.Tilt = c.tilt
		if _, err := track.Locate(p, c.scan, c.r); err != c.want {
			t.Errorf("Locate of %v, %v, %v: error %d, want %d", p, c.scan, c.r, err, c.want)
		}
		expectBox(t, p, c.scan, c.r)
	}
	// One coordinate alone is beyond the limit.
	for i, scan := range [][4]int{{1, 0, -1, 0}, {1, 1, 0, 0}, {0, 1, 0, 0}} {
		p := posed(0, 0)
		p.Pos[i] = api.Span{Lo: most - 1, Hi: most - 1}
		if _, err := track.Locate(p, scan, api.Span{Lo: 2, Hi: 2}); err != api.ErrRange {
			t.Errorf("Locate of %v, %v: error %d", p, scan, err)
		}
	}
}

// P4.11: the order of errors.
func TestLocateErrors(t *testing.T) {
	const most = 1 << 28
	var bad []api.Pose
	for i := range 3 {
		bad = append(bad, changed(posed(-5, 5), func(p *api.Pose, n int) { p.Pos[i].Lo = n }, append(beyond(-most, most), 6)...)...)
		bad = append(bad, changed(posed(-5, 5), func(p *api.Pose, n int) { p.Pos[i].Hi = n }, append(beyond(-most, most), -6)...)...)
	}
	bad = append(bad, changed(posed(-5, 5), func(p *api.Pose, n int) { p.Tilt = n }, beyond(0, 1<<31)...)...)
	var badTurns [][4]int
	for at := range 4 {
		badTurns = append(badTurns, changed([4]int{1, 2, 3, 4}, func(q *[4]int, n int) { q[at] = n }, beyond(-1000, 1000)...)...)
	}
	badTurns = append(badTurns, [4]int{})
	var badRanges []api.Span
	for _, n := range beyond(0, 1<<22) {
		badRanges = append(badRanges, api.Span{Lo: n, Hi: n}, api.Span{Lo: n, Hi: 5}, api.Span{Lo: 5, Hi: n})
	}
	badRanges = append(badRanges, api.Span{Lo: 6, Hi: 5})
	expect := func(p api.Pose, scan [4]int, r api.Span, want api.Errno) {
		t.Helper()
		if got, err := track.Locate(p, scan, r); err != want || got != (api.Box{}) {
			t.Errorf("Locate of %v, %v, %v = %v, error %d, want %d", p, scan, r, got, err, want)
		}
	}
	for _, p := range bad {
		expect(p, unturned, api.Span{}, api.ErrArg)
		expect(p, [4]int{}, api.Span{}, api.ErrArg)
	}
	for _, r := range badRanges {
		expect(posed(0, 0), unturned, r, api.ErrArg)
		expect(api.Pose{}, [4]int{}, r, api.ErrArg)
	}
	for _, q := range badTurns {
		p := posed(-most, most)
		expect(p, q, api.Span{Hi: 5}, api.ErrTurn)
		p.Quat = q
		expect(p, unturned, api.Span{Hi: 5}, api.ErrTurn)
	}
}

// P4.12
func TestInside(t *testing.T) {
	expect := func(s, of api.Span, want bool) {
		t.Helper()
		wide := api.Span{Lo: -1 << 60, Hi: 1 << 60}
		in, out := api.Box{}, api.Box{X: wide, Y: wide, Z: wide}
		for _, pair := range [][2]*api.Span{{&in.X, &out.X}, {&in.Y, &out.Y}, {&in.Z, &out.Z}} {
			inBefore, outBefore := *pair[0], *pair[1]
			*pair[0], *pair[1] = s, of
			if got := track.Inside(in, out); got != want {
				t.Errorf("Inside of %v and %v = %t", in, out, got)
			}
			*pair[0], *pair[1] = inBefore, outBefore
		}
	}
	allLists(4, 3, func(list []int) {
		if len(list) == 4 {
			expect(api.Span{Lo: list[0], Hi: list[1]}, api.Span{Lo: list[2], Hi: list[3]}, list[2] <= list[0] && list[0] <= list[1] && list[1] <= list[3])
		}
	})
	const most, least = 1<<63 - 1, -1 << 63
	expect(api.Span{Lo: -1 << 60, Hi: 1 << 60}, api.Span{Lo: -1 << 60, Hi: 1 << 60}, true)
	expect(api.Span{Lo: -1 << 60, Hi: 1 << 60}, api.Span{Lo: least, Hi: most}, true)
	expect(api.Span{Lo: -1<<60 - 1, Hi: 0}, api.Span{Lo: least, Hi: most}, false)
	expect(api.Span{Lo: 0, Hi: 1<<60 + 1}, api.Span{Lo: least, Hi: most}, false)
	expect(api.Span{Lo: 0, Hi: 0}, api.Span{Lo: most, Hi: least}, false)
}

// P4.12
func TestHolds(t *testing.T) {
	box := api.Box{X: api.Span{Lo: 1, Hi: 3}, Y: api.Span{Lo: -4, Hi: -3}, Z: api.Span{Lo: 1, Hi: 2}}
	none := box
	none.Z = api.Span{Lo: 2, Hi: 1}
	for x := range 6 {
		for y := -6; y < 0; y++ {
			for z := range 5 {
				want := 1 <= x && x <= 3 && (y == -4 || y == -3) && (z == 1 || z == 2)
				if got := track.Holds(box, x, y, z); got != want {
					t.Errorf("Holds of %v and %d, %d, %d = %t", box, x, y, z, got)
				}
				if track.Holds(none, x, y, z) {
					t.Errorf("%v holds %d, %d, %d", none, x, y, z)
				}
			}
		}
	}
	all := api.Span{Lo: -1 << 63, Hi: 1<<63 - 1}
	if !track.Holds(api.Box{X: all, Y: all, Z: all}, -1<<63, 1<<63-1, 0) {
		t.Error("the box of all points does not hold one")
	}
}

// P4.18, P3: points at places and ranges within the bounds.
func TestPointsLieInBoxes(t *testing.T) {
	r := rand.New(rand.NewSource(4))
	inside := func(s api.Span) *big.Rat {
		part := r.Intn(1001)
		return plus(times(whole(s.Lo), ratio(1000-part, 1000)), times(whole(s.Hi), ratio(part, 1000)))
	}
	for range 2000 {
		p, scan, far := randomPose(r, 1<<27), randomTurn(r), randomRange(r)
		p.Tilt = r.Intn(3) * r.Intn(10000)
		box, err := track.Locate(p, scan, far)
		if err != api.OK {
			t.Fatalf("Locate of %v, %v, %v: error %d", p, scan, far, err)
		}
		q, _ := track.Product(p.Quat, scan)
		v, n, _ := track.Beam(q)
		s := inside(far)
		for i, span := range []api.Span{box.X, box.Y, box.Z} {
			if x := plus(inside(p.Pos[i]), times(s, ratio(v[i], n))); !contains(span, x) {
				t.Errorf("%v is not in %v", x, span)
			}
		}
	}
}

// P4.18
func TestLocateIsIsotone(t *testing.T) {
	r := rand.New(rand.NewSource(5))
	part := func(s api.Span) api.Span {
		x, y := s.Lo+r.Intn(s.Hi-s.Lo+1), s.Lo+r.Intn(s.Hi-s.Lo+1)
		return api.Span{Lo: min(x, y), Hi: max(x, y)}
	}
	for range 2000 {
		p, scan, far := randomPose(r, 1<<27), randomTurn(r), randomRange(r)
		p.Tilt = r.Intn(10000)
		less := p
		for i, s := range p.Pos {
			less.Pos[i] = part(s)
		}
		less.Tilt = r.Intn(p.Tilt + 1)
		box, err := track.Locate(p, scan, far)
		small, err2 := track.Locate(less, scan, part(far))
		if err != api.OK || err2 != api.OK || !track.Inside(small, box) {
			t.Errorf("%v, error %d, of %v is not inside of %v, error %d, of %v", small, err2, less, box, err, p)
		}
	}
}

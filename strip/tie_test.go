package strip_test

import (
	"math/big"
	"math/rand"
	"testing"

	"lidar/api"
	"lidar/strip"
)

// plainFacet returns the normal through three points as the chapter defines it, or none.
func plainFacet(a, b, c [3]int) ([3]*big.Int, bool) {
	var n [3]*big.Int
	divisor := new(big.Int)
	for k := range n {
		i, j := (k+1)%3, (k+2)%3
		n[k] = new(big.Int).Mul(big.NewInt(int64(b[i]-a[i])), big.NewInt(int64(c[j]-a[j])))
		n[k].Sub(n[k], new(big.Int).Mul(big.NewInt(int64(b[j]-a[j])), big.NewInt(int64(c[i]-a[i]))))
		divisor.GCD(nil, nil, divisor, new(big.Int).Abs(n[k]))
	}
	if divisor.Sign() == 0 {
		return n, false
	}
	for k := 2; k >= 0; k-- {
		if n[k].Sign() != 0 {
			divisor.Mul(divisor, big.NewInt(int64(n[k].Sign())))
			break
		}
	}
	for k := range n {
		n[k].Quo(n[k], divisor)
	}
	return n, true
}

// plainTie returns the normal and D of a match for a normal that may be too long.
func plainTie(n [3]*big.Int, a, q [3]int) ([3]int, int) {
	var normal [3]int
	for shift := uint(0); ; shift++ {
		isShort := true
		for k := range n {
			x := new(big.Int).Div(n[k], power(shift)) // rounded down
			isShort = isShort && x.CmpAbs(big.NewInt(100)) <= 0
			normal[k] = int(x.Int64())
		}
		if isShort {
			break
		}
	}
	d := new(big.Int)
	for k, x := range normal {
		d.Add(d, new(big.Int).Mul(big.NewInt(int64(x)), big.NewInt(int64(a[k]-q[k]))))
	}
	return normal, int(d.Int64())
}

func checkPlane(t *testing.T, a, b, c, q [3]int) {
	t.Helper()
	want, ok := plainFacet(a, b, c)
	n, err := strip.Facet(a, b, c)
	m, tieErr := strip.Tie(2, -1, a, b, c, q, 9)
	if !ok {
		if err != api.ErrPlane || n != [3]int{} || tieErr != api.ErrPlane || m != (api.Match{}) {
			t.Errorf("Facet of %v, %v, %v = %v, error %d; Tie = %v, error %d", a, b, c, n, err, m, tieErr)
		}
		return
	}
	if err != api.OK || big.NewInt(int64(n[0])).Cmp(want[0]) != 0 || big.NewInt(int64(n[1])).Cmp(want[1]) != 0 || big.NewInt(int64(n[2])).Cmp(want[2]) != 0 {
		t.Errorf("Facet of %v, %v, %v = %v, error %d, want %v", a, b, c, n, err, want)
	}
	normal, d := plainTie(want, a, q)
	if tieErr != api.OK || m != tied(2, -1, normal, d, 9) {
		t.Errorf("Tie of %v, %v, %v with %v = %v, error %d, want %v, %d", a, b, c, q, m, tieErr, normal, d)
	}
	if !strip.Valid(problem(3, m)) {
		t.Errorf("%v is not valid in a problem", m)
	}
}

func randomPoint(r *rand.Rand, most int) [3]int {
	return [3]int{randomBelow(r, most), randomBelow(r, most), randomBelow(r, most)}
}

// P5.2, P5.3
func TestPlanes(t *testing.T) {
	r := rand.New(rand.NewSource(1))
	for i := range 30000 {
		most := []int{1, 3, 20, 200, 1 << 28}[i%5]
		checkPlane(t, randomPoint(r, most), randomPoint(r, most), randomPoint(r, most), randomPoint(r, most))
	}
	far := func() [3]int {
		var p [3]int
		for k := range p {
			p[k] = (1<<28 - r.Intn(2)) * (1 - 2*r.Intn(2))
		}
		return p
	}
	for range 3000 {
		checkPlane(t, far(), far(), far(), far())
		a, d := randomPoint(r, 1<<20), randomPoint(r, 1<<5) // on one line
		b, c := a, a
		for k := range a {
			b[k], c[k] = a[k]+r.Intn(2)*7*d[k], a[k]-3*d[k]
		}
		checkPlane(t, a, b, c, far())
	}
}

// P5.2: examples, among them those of the document, with the last elements 0.
func TestFacet(t *testing.T) {
	o, x, y, z := [3]int{}, [3]int{2, 0, 0}, [3]int{0, 2, 0}, [3]int{0, 0, 2}
	for _, c := range []struct{ a, b, c, want [3]int }{
		{o, x, y, [3]int{0, 0, 1}}, {o, y, x, [3]int{0, 0, 1}},
		{o, x, z, [3]int{0, 1, 0}}, {o, z, x, [3]int{0, 1, 0}},
		{o, y, z, [3]int{1, 0, 0}}, {o, z, y, [3]int{1, 0, 0}},
		{o, [3]int{1, 1, 0}, z, [3]int{-1, 1, 0}}, {x, y, z, [3]int{1, 1, 1}},
		{o, [3]int{1, 0, 5}, [3]int{0, 1, 6}, [3]int{-5, -6, 1}},
	} {
		if n, err := strip.Facet(c.a, c.b, c.c); err != api.OK || n != c.want {
			t.Errorf("Facet of %v, %v, %v = %v, error %d, want %v", c.a, c.b, c.c, n, err, c.want)
		}
	}
	for _, l := range [][3][3]int{{o, o, o}, {o, x, x}, {x, o, x}, {x, x, o}, {{1, 2, 3}, {2, 4, 6}, {4, 8, 12}}} {
		if n, err := strip.Facet(l[0], l[1], l[2]); err != api.ErrPlane || n != [3]int{} {
			t.Errorf("Facet of %v = %v, error %d", l, n, err)
		}
	}
}

// P5.3: the example of a plane that is too steep, and normals at the limit.
func TestTieOfSteepPlanes(t *testing.T) {
	for _, c := range []struct{ steep, want int }{{99, -99}, {100, -100}, {101, -51}, {200, -100}, {201, -51}, {-100, 100}, {-101, 50}, {-201, 100}, {-202, 50}} {
		m, err := strip.Tie(1, -1, [3]int{0, 0, 0}, [3]int{1, 0, c.steep}, [3]int{0, 1, 0}, [3]int{-1, 0, 0}, 1)
		if err != api.OK || m.Normal[0] != c.want || m.Normal[1] != 0 || m.D != c.want {
			t.Errorf("Tie of a plane that rises by %d = %v, error %d", c.steep, m, err)
		}
	}
	m, err := strip.Tie(1, 0, [3]int{0, 0, 5}, [3]int{2, 0, 5}, [3]int{0, 2, 5}, [3]int{9, 9, 2}, 3)
	if want := up(1, 0, 3, 3); err != api.OK || m != want {
		t.Errorf("Tie = %v, error %d, want %v", m, err, want)
	}
}

// P5.3: with the residual 0 the point q, shifted, lies on the shifted plane.
func TestTieMeansThatThePointLiesOnThePlane(t *testing.T) {
	a, b, c := [3]int{1, 2, 3}, [3]int{5, 2, 4}, [3]int{1, 9, 5}
	for dz := -5; dz <= 5; dz++ {
		q := [3]int{9, 16, 9 + dz} // the plane has the height 9 there
		m, err := strip.Tie(0, 1, a, b, c, q, 1)
		if err != api.OK {
			t.Fatalf("Tie: error %d", err)
		}
		shifts := nowhere(2)
		shifts[2] = whole(dz) // the strip with the plane rises to q
		residual, err := strip.Residual(problem(2, m), shifts.shifts(), 0)
		expect(t, "Residual", residual, err, whole(0))
	}
}

// P5.2, P5.3: errors in their order.
func TestTieErrors(t *testing.T) {
	o, x, y, q := [3]int{}, [3]int{2, 0, 0}, [3]int{0, 2, 0}, [3]int{1, 1, 1}
	expectErr := func(strips, other int, a, b, c, q [3]int, weight int, want api.Errno) {
		t.Helper()
		if m, err := strip.Tie(strips, other, a, b, c, q, weight); err != want || want != api.OK && m != (api.Match{}) {
			t.Errorf("Tie(%d, %d, %v, %v, %v, %v, %d) = %v, error %d, want %d", strips, other, a, b, c, q, weight, m, err, want)
		}
	}
	for _, n := range []int{0, 7} {
		expectErr(n, 3, o, x, y, q, 1, api.OK)
		expectErr(3, n, o, x, y, q, 1, api.OK)
	}
	expectErr(0, -1, o, x, y, q, 1000, api.OK)
	for _, third := range [][3]int{y, x} { // ErrArg comes before ErrPlane
		for _, n := range outside(0, 7) {
			expectErr(n, 3, o, x, third, q, 1, api.ErrArg)
		}
		for _, n := range append(outside(-1, 7), 2) {
			expectErr(2, n, o, x, third, q, 1, api.ErrArg)
		}
		expectErr(-1, -1, o, x, third, q, 1, api.ErrArg)
		for _, n := range outside(1, 1000) {
			expectErr(2, 3, o, x, third, q, n, api.ErrArg)
		}
		for _, n := range outside(-1<<28, 1<<28) {
			for k := range 3 {
				for at := range 4 {
					points := [4][3]int{o, x, third, q}
					points[at][k] = n
					expectErr(2, 3, points[0], points[1], points[2], points[3], 1, api.ErrArg)
					if at == 3 {
						continue
					}
					if got, err := strip.Facet(points[0], points[1], points[2]); err != api.ErrArg || got != [3]int{} {
						t.Errorf("Facet of %v = %v, error %d", points, got, err)
					}
				}
			}
		}
	}
	expectErr(2, 3, o, x, x, q, 1, api.ErrPlane)
}

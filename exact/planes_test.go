package exact_test

import (
	"math"
	"math/big"
	"math/rand"
	"testing"

	"lidar/api"
	"lidar/exact"
)

func place(x, y int) api.XY {
	return api.XY{X: x, Y: y}
}

// side returns what Turn should be, by the formula of P1.11.
func side(a, b, c api.XY) int {
	product := func(x, y int) *big.Int {
		return new(big.Int).Mul(big.NewInt(int64(x)), big.NewInt(int64(y)))
	}
	return product(b.X-a.X, c.Y-a.Y).Cmp(product(b.Y-a.Y, c.X-a.X))
}

// within returns what Circle should be, by the distances from the centre of the circle.
func within(a, b, c, d api.XY) int {
	x, y := centre(a, b, c)
	distance := func(p api.XY) *big.Rat {
		dx := new(big.Rat).Sub(big.NewRat(int64(p.X), 1), x)
		dy := new(big.Rat).Sub(big.NewRat(int64(p.Y), 1), y)
		return dx.Add(dx.Mul(dx, dx), dy.Mul(dy, dy))
	}
	return distance(a).Cmp(distance(d))
}

// centre returns the place that has the same distance from three places that are not on one line.
func centre(a, b, c api.XY) (x, y *big.Rat) {
	rat := func(n int) *big.Rat { return big.NewRat(int64(n), 1) }
	sumX, sumY, area := new(big.Rat), new(big.Rat), new(big.Rat)
	for _, t := range [][3]api.XY{{a, b, c}, {b, c, a}, {c, a, b}} {
		p, q, r := t[0], t[1], t[2]
		square := rat(p.X*p.X + p.Y*p.Y)
		sumX.Add(sumX, new(big.Rat).Mul(square, rat(q.Y-r.Y)))
		sumY.Add(sumY, new(big.Rat).Mul(square, rat(r.X-q.X)))
		area.Add(area, new(big.Rat).Mul(rat(p.X), rat(q.Y-r.Y)))
	}
	area.Add(area, area)
	return sumX.Quo(sumX, area), sumY.Quo(sumY, area)
}

func checkTurn(t *testing.T, a, b, c api.XY) {
	t.Helper()
	if got, err := exact.Turn(a, b, c); err != api.OK || got != side(a, b, c) {
		t.Errorf("Turn(%v, %v, %v) is %d, error %d, want %d", a, b, c, got, err, side(a, b, c))
	}
}

func checkCircle(t *testing.T, a, b, c, d api.XY) {
	t.Helper()
	got, err := exact.Circle(a, b, c, d)
	if side(a, b, c) == 0 {
		if got != 0 || err != api.ErrFlat {
			t.Errorf("Circle(%v, %v, %v, %v) is %d, error %d, want ErrFlat", a, b, c, d, got, err)
		}
	} else if want := within(a, b, c, d); err != api.OK || got != want {
		t.Errorf("Circle(%v, %v, %v, %v) is %d, error %d, want %d", a, b, c, d, got, err, want)
	}
}

// square returns the places with coordinates from 0 to n - 1.
func square(n int) []api.XY {
	var list []api.XY
	for x := range n {
		for y := range n {
			list = append(list, place(x, y))
		}
	}
	return list
}

// farPlaces are places at the limits and beside them.
func farPlaces() []api.XY {
	m := api.MaxCoord
	return []api.XY{place(-m, -m), place(m, -m), place(m, m), place(-m, m), place(m-1, m), place(m, m-1), place(1-m, -m), place(0, 0), place(1, 0), place(0, m)}
}

// P1.11, P1.12: all places of a small square, among them many on one line, equal ones, and ones on one circle.
func TestSmallPlanes(t *testing.T) {
	for _, a := range square(3) {
		for _, b := range square(3) {
			for _, c := range square(3) {
				checkTurn(t, a, b, c)
				for _, d := range square(4) {
					checkCircle(t, a, b, c, d)
				}
			}
		}
	}
}

// P1.11, P1.12: places at MaxCoord.
func TestFarPlanes(t *testing.T) {
	for _, a := range farPlaces() {
		for _, b := range farPlaces() {
			for _, c := range farPlaces() {
				checkTurn(t, a, b, c)
				for _, d := range farPlaces() {
					checkCircle(t, a, b, c, d)
				}
			}
		}
	}
}

// P1.11, P1.12: random places, and places beside lines and circles.
func TestRandomPlanes(t *testing.T) {
	r := rand.New(rand.NewSource(8))
	for range 1000 {
		p := randomPlaces(r, 4)
		checkTurn(t, p[0], p[1], p[2])
		checkCircle(t, p[0], p[1], p[2], p[3])
	}
	// 3, 4 and 5 times the same number make up a right-angled triangle.
	k := api.MaxCoord / 5
	circle := []api.XY{place(5*k, 0), place(4*k, 3*k), place(3*k, 4*k), place(0, 5*k), place(-3*k, 4*k), place(-4*k, -3*k), place(3*k, -4*k)}
	for i, d := range circle {
		a, b, c := circle[(i+1)%7], circle[(i+3)%7], circle[(i+4)%7]
		for dx := -1; dx <= 1; dx++ {
			for dy := -1; dy <= 1; dy++ {
				checkCircle(t, a, b, c, place(d.X+dx, d.Y+dy))
			}
		}
	}
}

func randomPlaces(r *rand.Rand, n int) []api.XY {
	limit := []int{4, 1000, api.MaxCoord}[r.Intn(3)]
	list := make([]api.XY, n)
	for i := range list {
		list[i] = place(r.Intn(2*limit+1)-limit, r.Intn(2*limit+1)-limit)
	}
	return list
}

// The examples of the chapter.
func TestPlaneExamples(t *testing.T) {
	if got, err := exact.Turn(place(0, 0), place(1, 0), place(0, 1)); got != 1 || err != api.OK {
		t.Errorf("Turn to the left is %d, error %d", got, err)
	}
	if got, err := exact.Turn(place(0, 0), place(0, 1), place(1, 0)); got != -1 || err != api.OK {
		t.Errorf("Turn to the right is %d, error %d", got, err)
	}
	for d, want := range map[api.XY]int{place(2, 2): 0, place(1, 1): 1, place(3, 3): -1, place(2, 0): 0} {
		if got, err := exact.Circle(place(0, 0), place(2, 0), place(0, 2), d); got != want || err != api.OK {
			t.Errorf("Circle of %v is %d, error %d", d, got, err)
		}
	}
	if got, err := exact.Circle(place(0, 0), place(1, 1), place(2, 2), place(5, 0)); got != 0 || err != api.ErrFlat {
		t.Errorf("Circle of places on one line is %d, error %d", got, err)
	}
}

// P1.1: ErrPlace comes before ErrFlat, whichever place is not valid.
func TestPlacesThatAreNotValid(t *testing.T) {
	m := api.MaxCoord
	for _, bad := range []api.XY{place(m+1, 0), place(-m-1, 0), place(0, m+1), place(0, -m-1), place(math.MaxInt, math.MinInt), place(math.MinInt, 0)} {
		for i := range 4 {
			for _, good := range [][4]api.XY{{place(0, 0), place(5, 0), place(0, 5), place(2, 2)}, {place(1, 1), place(1, 1), place(2, 2), place(3, 3)}} {
				p := good
				p[i] = bad
				if got, err := exact.Circle(p[0], p[1], p[2], p[3]); got != 0 || err != api.ErrPlace {
					t.Errorf("Circle of %v is %d, error %d", p, got, err)
				}
				if got, err := exact.Turn(p[0], p[1], p[2]); i < 3 && (got != 0 || err != api.ErrPlace) {
					t.Errorf("Turn of %v is %d, error %d", p[:3], got, err)
				}
			}
		}
	}
}

// P1.15
func TestPlaneLaws(t *testing.T) {
	turn := func(a, b, c api.XY) int {
		n, _ := exact.Turn(a, b, c)
		return n
	}
	r := rand.New(rand.NewSource(9))
	for range 3000 {
		p := randomPlaces(r, 4)
		a, b, c, d := p[0], p[1], p[2], p[3]
		s := turn(a, b, c)
		if turn(b, a, c) != -s || turn(a, c, b) != -s || turn(c, b, a) != -s || turn(b, c, a) != s || turn(c, a, b) != s {
			t.Errorf("Turn of %v, %v and %v depends on their order in another way", a, b, c)
		}
		first, err := exact.Circle(a, b, c, d)
		for _, q := range [][3]api.XY{{a, c, b}, {b, a, c}, {b, c, a}, {c, a, b}, {c, b, a}} {
			if other, otherErr := exact.Circle(q[0], q[1], q[2], d); other != first || otherErr != err {
				t.Errorf("Circle(%v, %v) is %d, error %d, but %d, error %d in another order", q, d, other, otherErr, first, err)
			}
		}
		if turn(a, b, c) == 1 && turn(b, a, d) == 1 {
			if other, _ := exact.Circle(b, a, d, c); other != first {
				t.Errorf("Circle(%v, %v, %v, %v) is %d, but %d from the other triangle", a, b, c, d, first, other)
			}
		}
	}
}

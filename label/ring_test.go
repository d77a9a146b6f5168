package label_test

import (
	"math"
	"math/rand"
	"slices"
	"testing"

	"lidar/api"
	"lidar/exact"
	"lidar/label"
)

func within(t *testing.T, ring []api.XY, at api.XY) bool {
	t.Helper()
	is, err := label.Within(ring, at)
	if err != api.OK {
		t.Fatalf("Within of %v, %v: error %d", ring, at, err)
	}
	return is
}

// P7.13, example 2.
func TestWithinSquare(t *testing.T) {
	square := []api.XY{{X: 0, Y: 0}, {X: 4, Y: 0}, {X: 4, Y: 4}, {X: 0, Y: 4}}
	for x := -2; x <= 6; x++ {
		for y := -2; y <= 6; y++ {
			want := 0 <= x && x <= 4 && 0 <= y && y <= 4
			if got := within(t, square, place(x, y)); got != want {
				t.Errorf("Within of (%d, %d) returns %t", x, y, got)
			}
		}
	}
}

// P7.13: rings that cross themselves, that lie on one line, or whose corners are the same.
func TestWithinOtherRings(t *testing.T) {
	bow := []api.XY{place(0, 0), place(4, 4), place(4, 0), place(0, 4)}
	twice := []api.XY{place(0, 0), place(6, 0), place(0, 6), place(0, 0), place(6, 0), place(0, 6)}
	flat := []api.XY{place(0, 0), place(6, 2), place(3, 1)}
	dot := []api.XY{place(3, 3), place(3, 3), place(3, 3)}
	spike := []api.XY{place(0, 0), place(4, 0), place(9, 0), place(4, 0), place(4, 4)}
	star := []api.XY{place(0, 3), place(9, 3), place(1, 8), place(5, 0), place(8, 8)}
	for name, c := range map[string]struct {
		ring []api.XY
		at   api.XY
		want bool
	}{
		"in the left wing":        {bow, place(1, 2), true},
		"in the right wing":       {bow, place(3, 2), true},
		"below the knot":          {bow, place(2, 1), false},
		"in the knot":             {bow, place(2, 2), true},
		"in it twice":             {twice, place(1, 1), false},
		"on its side twice":       {twice, place(3, 3), true},
		"on a flat ring":          {flat, place(3, 1), true},
		"at its end":              {flat, place(6, 2), true},
		"beside a flat ring":      {flat, place(3, 2), false},
		"in line with it":         {flat, place(9, 3), false},
		"at a single place":       {dot, place(3, 3), true},
		"to the left of it":       {dot, place(2, 3), false},
		"on a spike":              {spike, place(7, 0), true},
		"behind a spike":          {spike, place(10, 0), false},
		"in the middle of a star": {star, place(5, 4), false},
		"in its point":            {star, place(5, 1), true},
	} {
		if got := within(t, c.ring, c.at); got != c.want {
			t.Errorf("%s: Within returns %t", name, got)
		}
	}
}

// P7.13: errors, and the limits of rings.
func TestRingErrors(t *testing.T) {
	round := make([]api.XY, api.MaxRing+1)
	for i := range round {
		round[i] = place(i, i*i)
	}
	spoiled := func(at api.XY) []api.XY { return []api.XY{place(0, 0), place(4, 0), at} }
	for name, c := range map[string]struct {
		ring []api.XY
		at   api.XY
		want api.Errno
	}{
		"no corners":         {nil, place(0, 0), api.ErrRing},
		"two corners":        {round[:2], place(0, 0), api.ErrRing},
		"three corners":      {round[:3], place(0, 0), api.OK},
		"64 corners":         {round[:64], place(0, 0), api.OK},
		"65 corners":         {round, place(0, 0), api.ErrRing},
		"a corner too far":   {spoiled(place(limit+1, 0)), place(0, 0), api.ErrRing},
		"a corner too low":   {spoiled(place(0, -limit-1)), place(0, 0), api.ErrRing},
		"a corner very far":  {spoiled(place(math.MinInt, 0)), place(0, 0), api.ErrRing},
		"corners at the end": {spoiled(place(limit, -limit)), place(-limit, limit), api.OK},
		"a place too far":    {round[:3], place(-limit-1, 0), api.ErrPlace},
		"a place too high":   {round[:3], place(0, math.MaxInt), api.ErrPlace},
		"both":               {round[:2], place(0, limit+1), api.ErrRing},
	} {
		if is, err := label.Within(c.ring, c.at); err != c.want || err != api.OK && is {
			t.Errorf("%s: Within returns %t, error %d", name, is, err)
		}
	}
}

// rings of few places, of places anywhere, and of places at the limits.
var rings = []func(r *rand.Rand) api.XY{
	func(r *rand.Rand) api.XY { return place(r.Intn(5), r.Intn(5)) },
	func(r *rand.Rand) api.XY { return place(r.Intn(9), r.Intn(3)) },
	func(r *rand.Rand) api.XY { return place(r.Intn(100), r.Intn(100)) },
	func(r *rand.Rand) api.XY { return place(r.Intn(2*limit+1)-limit, r.Intn(2*limit+1)-limit) },
	func(r *rand.Rand) api.XY { return place((r.Intn(3)-1)*limit, (r.Intn(3)-1)*limit) },
}

func randomRing(r *rand.Rand, kind func(r *rand.Rand) api.XY) []api.XY {
	ring := make([]api.XY, 3+r.Intn(7))
	if r.Intn(50) == 0 {
		ring = make([]api.XY, api.MaxRing)
	}
	for i := range ring {
		ring[i] = kind(r)
	}
	return ring
}

// P7.13, P7.19: any rings and places; the first corner and the direction do not matter.
func TestWithinRandomRings(t *testing.T) {
	r := rand.New(rand.NewSource(9))
	inside := 0
	const tries = 30000
	for range tries {
		kind := rings[r.Intn(len(rings))]
		ring, at := randomRing(r, kind), kind(r)
		want := plainWithin(ring, at)
		if want {
			inside++
		}
		k := r.Intn(len(ring))
		turned := append(slices.Clone(ring[k:]), ring[:k]...)
		if got := within(t, ring, at); got != want || within(t, turned, at) != want {
			t.Fatalf("Within of %v, %v returns %t", ring, at, got)
		}
		slices.Reverse(turned)
		if within(t, turned, at) != want {
			t.Fatalf("Within of %v, %v returns %t", turned, at, !want)
		}
	}
	if inside < tries/4 || inside > tries/4*3 {
		t.Errorf("%d of %d places are within", inside, tries)
	}
}

// P7.19: a place inside a triangle in the sense of Turn is within it, and one outside is not.
func TestWithinTriangles(t *testing.T) {
	r := rand.New(rand.NewSource(10))
	for range 20000 {
		kind := rings[r.Intn(len(rings))]
		ring, at := []api.XY{kind(r), kind(r), kind(r)}, kind(r)
		var count [3]int // how often the place is to the right, on the line, to the left
		for i := range ring {
			turn, _ := exact.Turn(ring[i], ring[(i+1)%3], at)
			count[turn+1]++
		}
		if count[2] == 3 || count[0] == 3 {
			if !within(t, ring, at) {
				t.Fatalf("%v is not within %v", at, ring)
			}
		} else if count[0] > 0 && count[2] > 0 && within(t, ring, at) {
			t.Fatalf("%v is within %v", at, ring)
		}
	}
}

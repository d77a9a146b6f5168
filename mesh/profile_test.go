package mesh_test

import (
	"math/big"
	"math/rand"
	"slices"
	"testing"

	"lidar/api"
	"lidar/mesh"
)

// along returns the place at a part of the way.
func along(from, to api.XY, at *big.Rat) spot {
	return spot{plus(whole(from.X), times(at, whole(to.X-from.X))), plus(whole(from.Y), times(at, whole(to.Y-from.Y)))}
}

// plainParts returns all At of a profile in ascending order.
func plainParts(m api.Mesh, from, to api.XY) []*big.Rat {
	list := []*big.Rat{whole(0), whole(1)}
	add := func(at *big.Rat) {
		isThere := slices.ContainsFunc(list, func(x *big.Rat) bool { return x.Cmp(at) == 0 })
		if at.Sign() > 0 && at.Cmp(whole(1)) < 0 && !isThere {
			list = append(list, at)
		}
	}
	for _, v := range m.V {
		if plainSide(from, to, placeOf(v)) != 0 {
			continue
		}
		if from.X != to.X {
			add(over(whole(v.X-from.X), whole(to.X-from.X)))
		} else {
			add(over(whole(v.Y-from.Y), whole(to.Y-from.Y)))
		}
	}
	sides, _ := plainSides(m.T)
	for _, s := range sides {
		p, q := placeOf(m.V[s[0]]), placeOf(m.V[s[1]])
		before, after := plainTurn(spotOf(p), spotOf(q), spotOf(from)), plainTurn(spotOf(p), spotOf(q), spotOf(to))
		if plainSide(from, to, p)*plainSide(from, to, q) <= 0 && before.Cmp(after) != 0 {
			add(over(before, minus(before, after)))
		}
	}
	slices.SortFunc(list, (*big.Rat).Cmp)
	return list
}

func expectProfile(t *testing.T, m api.Mesh, from, to api.XY) []api.Stop {
	t.Helper()
	parts := plainParts(m, from, to)
	stops, err := mesh.Profile(m, from, to)
	if err != api.OK || len(stops) != len(parts) {
		t.Fatalf("Profile of %v from %v to %v = %v, error %d, want stops at %v", m, from, to, stops, err, parts)
	}
	for i, at := range parts {
		p := along(from, to, at)
		lo, hi, in := new(big.Rat), new(big.Rat), plainFind(m, p)
		if in >= 0 {
			lo, hi = plainHeight(m.V, m.T[in], p, false), plainHeight(m.V, m.T[in], p, true)
		}
		s := stops[i]
		if !isNumber(s.At, at) || s.In != (in >= 0) || !isNumber(s.Lo, lo) || !isNumber(s.Hi, hi) {
			t.Fatalf("Profile of %v from %v to %v has the stop %s, %t, %s, %s, want %s, %t, %s, %s", m, from, to, textOf(s.At), s.In, textOf(s.Lo), textOf(s.Hi), at, in >= 0, lo, hi)
		}
	}
	return stops
}

// P6.11, P6.18
func TestProfiles(t *testing.T) {
	r := rand.New(rand.NewSource(1))
	for range 500 {
		m := randomMesh(t, r, 15)
		places := somePlaces(r, m)
		for range 4 {
			from, to := places[r.Intn(len(places))], places[r.Intn(len(places))]
			if from != to {
				expectLinear(t, m, from, to, expectProfile(t, m, from, to))
			}
		}
	}
}

// expectLinear checks P6.18 in the middle between stops.
func expectLinear(t *testing.T, m api.Mesh, from, to api.XY, stops []api.Stop) {
	t.Helper()
	mean := func(x, y api.Rat) *big.Rat { return over(plus(value(t, x), value(t, y)), whole(2)) }
	for i := 1; i < len(stops); i++ {
		a, b := stops[i-1], stops[i]
		p := along(from, to, mean(a.At, b.At))
		in := plainFind(m, p)
		if in < 0 {
			continue
		}
		lo, hi := plainHeight(m.V, m.T[in], p, false), plainHeight(m.V, m.T[in], p, true)
		if !a.In || !b.In || lo.Cmp(mean(a.Lo, b.Lo)) != 0 || hi.Cmp(mean(a.Hi, b.Hi)) != 0 {
			t.Fatalf("the profile of %v from %v to %v is not linear between %v and %v", m, from, to, a, b)
		}
	}
}

// P6.11: along sides, through vertices, past corners and outside.
func TestProfileExamples(t *testing.T) {
	v := append(square(), vertex(1, 0, 7, 9), vertex(6, 6, 0, 1))
	for _, c := range []struct {
		m        api.Mesh
		from, to api.XY
		at       []string
		in       []bool
	}{
		{build(t, square()), place(0, 0), place(4, 4), []string{"0", "1/4", "1/2", "1"}, []bool{true, true, true, false}},
		{build(t, square()), place(4, 4), place(0, 0), []string{"0", "1/2", "3/4", "1"}, []bool{false, true, true, true}},
		{build(t, square()), place(-1, 0), place(3, 0), []string{"0", "1/4", "3/4", "1"}, []bool{false, true, true, false}},
		{build(t, square()), place(-1, 3), place(3, -1), []string{"0", "1/4", "3/4", "1"}, []bool{false, true, true, false}},
		{build(t, square()), place(-1, 1), place(1, -1), []string{"0", "1/2", "1"}, []bool{false, true, false}},
		{build(t, square()), place(-1, 5), place(1, 5), []string{"0", "1"}, []bool{false, false}},
		{build(t, square()), place(1, 0), place(0, 1), []string{"0", "1"}, []bool{true, true}},
		{build(t, square()), place(0, 0), place(0, 2), []string{"0", "1"}, []bool{true, true}},
		{build(t, v), place(0, 0), place(3, 0), []string{"0", "1/3", "2/3", "1"}, []bool{true, true, true, false}},
		{build(t, onGround(place(0, 0), place(2, 2), place(9, 9))), place(-1, -1), place(3, 3), []string{"0", "1/4", "3/4", "1"}, []bool{false, false, false, false}},
		{build(t, onGround(place(0, 0), place(2, 2))), place(2, 0), place(0, 2), []string{"0", "1"}, []bool{false, false}},
		{build(t, onGround(place(5, 1))), place(5, 0), place(5, 3), []string{"0", "1/3", "1"}, []bool{false, false, false}},
		{api.Mesh{}, place(limit, limit), place(-limit, -limit), []string{"0", "1"}, []bool{false, false}},
	} {
		stops := expectProfile(t, c.m, c.from, c.to)
		var at []string
		var in []bool
		for _, s := range stops {
			at, in = append(at, textOf(s.At)), append(in, s.In)
		}
		if !slices.Equal(at, c.at) || !slices.Equal(in, c.in) {
			t.Errorf("Profile of %v from %v to %v = %v, %v, want %v, %v", c.m, c.from, c.to, at, in, c.at, c.in)
		}
	}
}

// P6.11: errors in their order.
func TestProfileErrors(t *testing.T) {
	for _, m := range []api.Mesh{{}, build(t, square())} {
		for _, n := range []int{-1 << 63, -limit - 1, limit + 1, 1<<63 - 1} {
			for _, bad := range []api.XY{place(n, 1), place(1, n)} {
				for _, c := range [][2]api.XY{{bad, place(0, 0)}, {place(0, 0), bad}, {bad, bad}} {
					if stops, err := mesh.Profile(m, c[0], c[1]); err != api.ErrPlace || len(stops) > 0 {
						t.Errorf("Profile of %v = %v, error %d", c, stops, err)
					}
				}
			}
		}
		for _, p := range []api.XY{place(1, 1), place(limit, -limit)} {
			if stops, err := mesh.Profile(m, p, p); err != api.ErrArg || len(stops) > 0 {
				t.Errorf("Profile at %v = %v, error %d", p, stops, err)
			}
		}
	}
}

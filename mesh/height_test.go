package mesh_test

import (
	"math/big"
	"math/rand"
	"testing"

	"lidar/api"
	"lidar/mesh"
)

// plainFind returns the first triangle in which a place lies, or -1.
func plainFind(m api.Mesh, p spot) int {
	for i, a := range m.T {
		if plainContains(m.V, a, p) {
			return i
		}
	}
	return -1
}

// plainSpan returns the least span from lo to hi.
func plainSpan(lo, hi *big.Rat) api.Span {
	down := new(big.Int).Div(lo.Num(), lo.Denom()) // rounded down
	up := new(big.Int).Div(new(big.Int).Neg(hi.Num()), hi.Denom())
	return api.Span{Lo: int(down.Int64()), Hi: -int(up.Int64())}
}

func expectHeight(t *testing.T, m api.Mesh, p api.XY) {
	t.Helper()
	want, wantErr := plainFind(m, spotOf(p)), api.OK
	var wantSpan api.Span
	wantLo, wantHi := new(big.Rat), new(big.Rat)
	if want < 0 {
		want, wantErr = 0, api.ErrOutside
	} else {
		wantLo, wantHi = plainHeight(m.V, m.T[want], spotOf(p), false), plainHeight(m.V, m.T[want], spotOf(p), true)
		wantSpan = plainSpan(wantLo, wantHi)
	}
	if i, err := mesh.Find(m, p); i != want || err != wantErr {
		t.Fatalf("Find of %v in %v = %d, error %d, want %d, error %d", p, m, i, err, want, wantErr)
	}
	if lo, hi, err := mesh.Height(m, p); err != wantErr || !isNumber(lo, wantLo) || !isNumber(hi, wantHi) {
		t.Fatalf("Height at %v in %v = %s, %s, error %d, want %s, %s, error %d", p, m, textOf(lo), textOf(hi), err, wantLo, wantHi, wantErr)
	}
	if s, err := mesh.Bounds(m, p); s != wantSpan || err != wantErr {
		t.Fatalf("Bounds at %v in %v = %v, error %d, want %v, error %d", p, m, s, err, wantSpan, wantErr)
	}
}

// somePlaces are places within, on and around a mesh.
func somePlaces(r *rand.Rand, m api.Mesh) []api.XY {
	list := []api.XY{place(0, 0), place(limit, -limit), place(r.Intn(9)-3, r.Intn(9)-3), place(randomCoordinate(r), randomCoordinate(r))}
	for range 5 {
		if len(m.V) > 0 {
			p, q := m.V[r.Intn(len(m.V))], m.V[r.Intn(len(m.V))]
			list = append(list, placeOf(p), place((p.X+q.X)/2, (p.Y+q.Y)/2), place((2*p.X+q.X)/3, (2*p.Y+q.Y)/3))
		}
	}
	return list
}

// P6.7
func TestHeights(t *testing.T) {
	r := rand.New(rand.NewSource(1))
	for range 600 {
		m := randomMesh(t, r, 15)
		for _, p := range somePlaces(r, m) {
			expectHeight(t, m, p)
		}
	}
	for range 50 {
		v := randomVertices(r, kinds[1], 12)
		for i := range v { // heights at their limits
			v[i].Z = api.Span{Lo: -limit + r.Intn(3), Hi: limit - r.Intn(3)}
		}
		m := build(t, v)
		for x := -4; x <= 4; x++ {
			for y := -4; y <= 4; y++ {
				expectHeight(t, m, place(x, y))
			}
		}
	}
}

// P6.7: example 2, and the sides of the triangles.
func TestHeightExample(t *testing.T) {
	m := build(t, square())
	lo, hi, err := mesh.Height(m, place(1, 1))
	if err != api.OK || textOf(lo) != "2" || textOf(hi) != "7/2" {
		t.Errorf("Height = %s, %s, error %d", textOf(lo), textOf(hi), err)
	}
	if s, err := mesh.Bounds(m, place(1, 1)); err != api.OK || s != (api.Span{Lo: 2, Hi: 4}) {
		t.Errorf("Bounds = %v, error %d", s, err)
	}
	for p, want := range map[api.XY]int{place(1, 1): 0, place(2, 0): 0, place(0, 1): 0, place(2, 1): 1, place(2, 2): 1} {
		if i, err := mesh.Find(m, p); err != api.OK || i != want {
			t.Errorf("Find of %v = %d, error %d, want %d", p, i, err, want)
		}
	}
	for _, p := range []api.XY{place(3, 1), place(-1, 0), place(1, 3), place(limit, limit)} {
		expectHeight(t, m, p)
	}
}

// P6.7: errors in their order.
func TestHeightErrors(t *testing.T) {
	for _, m := range []api.Mesh{{}, build(t, square()), build(t, square()[:2])} {
		for _, n := range []int{-1 << 63, -limit - 1, limit + 1, 1<<63 - 1} {
			for _, p := range []api.XY{place(n, 1), place(1, n), place(n, n)} {
				if i, err := mesh.Find(m, p); i != 0 || err != api.ErrPlace {
					t.Errorf("Find of %v = %d, error %d", p, i, err)
				}
				if lo, hi, err := mesh.Height(m, p); !isZero(lo) || !isZero(hi) || err != api.ErrPlace {
					t.Errorf("Height at %v = %v, %v, error %d", p, lo, hi, err)
				}
				if s, err := mesh.Bounds(m, p); s != (api.Span{}) || err != api.ErrPlace {
					t.Errorf("Bounds at %v = %v, error %d", p, s, err)
				}
			}
		}
	}
}

// P6.15
func TestHeightLaws(t *testing.T) {
	r := rand.New(rand.NewSource(2))
	for range 300 {
		m := randomMesh(t, r, 12)
		if isFlat(m.V) {
			continue
		}
		wide := copyOf(m)
		for i := range wide.V {
			wide.V[i].Z.Lo -= r.Intn(3)
			wide.V[i].Z.Hi += r.Intn(3)
		}
		for _, p := range m.V {
			if lo, hi, err := mesh.Height(m, placeOf(p)); err != api.OK || !isNumber(lo, whole(p.Z.Lo)) || !isNumber(hi, whole(p.Z.Hi)) {
				t.Fatalf("Height at the vertex %v of %v = %s, %s, error %d", p, m, textOf(lo), textOf(hi), err)
			}
		}
		for _, p := range somePlaces(r, m) {
			i, err := mesh.Find(m, p)
			if err != api.OK {
				continue
			}
			s, _ := mesh.Bounds(m, p)
			a, b, c := m.V[m.T[i][0]].Z, m.V[m.T[i][1]].Z, m.V[m.T[i][2]].Z
			if s.Lo < min(a.Lo, b.Lo, c.Lo) || s.Hi > max(a.Hi, b.Hi, c.Hi) {
				t.Fatalf("Bounds at %v in %v = %v", p, m, s)
			}
			if w, _ := mesh.Bounds(wide, p); w.Lo > s.Lo || w.Hi < s.Hi {
				t.Fatalf("Bounds at %v = %v in %v, %v in %v", p, s, m, w, wide)
			}
			truth := copyOf(m) // a surface that is linear over the triangle
			for _, k := range m.T[i] {
				truth.V[k].Z.Lo += r.Intn(truth.V[k].Z.Hi - truth.V[k].Z.Lo + 1)
			}
			if h := plainHeight(truth.V, m.T[i], spotOf(p), false); h.Cmp(whole(s.Lo)) < 0 || h.Cmp(whole(s.Hi)) > 0 {
				t.Fatalf("Bounds at %v in %v = %v, and a surface has the height %s", p, m, s, h)
			}
		}
	}
}

// plainVolume returns six times the volume over the height base.
func plainVolume(m api.Mesh, base int, high bool) *big.Rat {
	sum := new(big.Rat)
	for _, a := range m.T {
		over := -3 * base
		for _, i := range a {
			over += heightOf(m.V[i], high)
		}
		sum = plus(sum, times(plainArea(m.V, a[:]), whole(over)))
	}
	return sum
}

// P6.8, P6.14, P6.16
func TestAreaAndVolume(t *testing.T) {
	r := rand.New(rand.NewSource(3))
	for range 600 {
		m := randomMesh(t, r, 20)
		area, err := mesh.Area(m)
		if want := plainArea(m.V, plainBorder(m.V)); err != api.OK || want.Cmp(whole(area)) != 0 {
			t.Fatalf("Area of %v = %d, error %d, want %s", m, area, err, want)
		}
		for _, base := range []int{r.Intn(20) - 10, randomCoordinate(r), -limit, limit - 1} {
			lo, hi, err := mesh.Volume(m, base)
			if err != api.OK || !isNumber(lo, plainVolume(m, base, false)) || !isNumber(hi, plainVolume(m, base, true)) {
				t.Fatalf("Volume of %v over %d = %s, %s, error %d", m, base, textOf(lo), textOf(hi), err)
			}
			less, _, err := mesh.Volume(m, base+1)
			if want := minus(value(t, lo), whole(3*area)); err != api.OK || !isNumber(less, want) {
				t.Fatalf("Volume of %v over %d = %s, error %d, want %s", m, base+1, textOf(less), err, want)
			}
		}
	}
}

// P6.8: example 3, the limits, and errors.
func TestVolumeLimits(t *testing.T) {
	m := build(t, []api.Vertex{vertex(0, 0, 3, 3), vertex(2, 0, 3, 3), vertex(0, 2, 3, 3)})
	if lo, hi, err := mesh.Volume(m, 0); err != api.OK || textOf(lo) != "36" || textOf(hi) != "36" {
		t.Errorf("Volume = %s, %s, error %d", textOf(lo), textOf(hi), err)
	}
	if lo, hi, err := mesh.Volume(m, 4); err != api.OK || textOf(lo) != "-12" || textOf(hi) != "-12" {
		t.Errorf("Volume = %s, %s, error %d", textOf(lo), textOf(hi), err)
	}
	high := build(t, []api.Vertex{vertex(-limit, -limit, -limit, limit), vertex(limit, -limit, -limit, limit), vertex(limit, limit, -limit, limit), vertex(-limit, limit, -limit, limit)})
	most := times(times(whole(2*limit), whole(2*limit)), whole(12*limit))
	if lo, hi, err := mesh.Volume(high, -limit); err != api.OK || !isZero(lo) || !isNumber(hi, most) {
		t.Errorf("Volume = %s, %s, error %d, want %s", textOf(lo), textOf(hi), err, most)
	}
	if lo, hi, err := mesh.Volume(high, limit); err != api.OK || !isNumber(lo, new(big.Rat).Neg(most)) || !isZero(hi) {
		t.Errorf("Volume = %s, %s, error %d", textOf(lo), textOf(hi), err)
	}
	if a, err := mesh.Area(high); err != api.OK || a != 1<<59 {
		t.Errorf("Area = %d, error %d", a, err)
	}
	for _, m := range []api.Mesh{{}, m, high} {
		for _, base := range []int{-1 << 63, -limit - 1, limit + 1, 1<<63 - 1} {
			if lo, hi, err := mesh.Volume(m, base); err != api.ErrArg || !isZero(lo) || !isZero(hi) {
				t.Errorf("Volume over %d = %s, %s, error %d", base, textOf(lo), textOf(hi), err)
			}
		}
	}
}

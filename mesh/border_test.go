package mesh_test

import (
	"math/rand"
	"slices"
	"testing"

	"lidar/api"
	"lidar/mesh"
)

// P6.2
func TestBorder(t *testing.T) {
	r := rand.New(rand.NewSource(1))
	for round := range 5000 {
		v := randomVertices(r, kinds[round%len(kinds)], r.Intn(20))
		if got, err := mesh.Border(v); err != api.OK || !slices.Equal(got, plainBorder(v)) {
			t.Fatalf("Border of %v = %v, error %d, want %v", v, got, err, plainBorder(v))
		}
	}
	for _, c := range []struct {
		v    []api.Vertex
		want []int
	}{
		{nil, nil},
		{onGround(place(5, 5)), []int{0}},
		{onGround(place(5, 5), place(5, 4)), []int{1, 0}},
		{onGround(place(5, 5), place(5, 7), place(5, 6), place(5, 4)), []int{3, 1}},
		{onGround(place(2, 2), place(0, 0), place(1, 1)), []int{1, 0}},
		{onGround(place(1, 0), place(2, 0), place(2, 2), place(0, 2), place(0, 1), place(1, 1), place(0, 0)), []int{6, 1, 2, 3}},
		{onGround(place(limit, limit), place(-limit, limit), place(0, 0), place(limit, -limit), place(-limit, -limit)), []int{4, 3, 0, 1}},
	} {
		if got, err := mesh.Border(c.v); err != api.OK || !slices.Equal(got, c.want) {
			t.Errorf("Border of %v = %v, error %d, want %v", c.v, got, err, c.want)
		}
	}
}

// badVertices are vertices that are not valid.
func badVertices() []api.Vertex {
	list := []api.Vertex{vertex(9, 9, 1, 0), vertex(9, 9, limit, -limit)}
	for _, n := range []int{-1 << 63, -1 << 62, -limit - 1, limit + 1, 1 << 62, 1<<63 - 1} {
		list = append(list, vertex(n, 9, 0, 0), vertex(9, n, 0, 0), vertex(9, 9, n, n), vertex(9, 9, n, max(n, 0)), vertex(9, 9, min(n, 0), n))
	}
	return list
}

// P6.2: errors in their order, and what is just valid.
func TestBorderErrors(t *testing.T) {
	check := func(v []api.Vertex, want api.Errno) {
		t.Helper()
		got, err := mesh.Border(v)
		if err != want || err != api.OK && len(got) > 0 {
			t.Errorf("Border of %d vertices = %v, error %d, want %d", len(v), got, err, want)
		}
	}
	check(manyVertices(1024), api.OK)
	check(manyVertices(1025), api.ErrArg)
	check(append(manyVertices(1025), badVertices()[0]), api.ErrArg)
	check(make([]api.Vertex, 5000), api.ErrArg)
	check([]api.Vertex{vertex(limit, -limit, -limit, limit), vertex(-limit, limit, limit, limit), vertex(0, 0, -limit, -limit)}, api.OK)
	for _, bad := range badVertices() {
		check([]api.Vertex{bad}, api.ErrVertex)
		check(append(square(), bad), api.ErrVertex)
		check(append([]api.Vertex{bad, bad}, square()...), api.ErrVertex)
		check(append(square(), vertex(0, 0, 5, 5), bad), api.ErrVertex)
	}
	for i, p := range square() {
		p.Z = api.Span{Lo: i, Hi: 7}
		check(append(square(), p), api.ErrSame)
		check(append([]api.Vertex{p}, square()...), api.ErrSame)
	}
}

// P6.3
func TestLegal(t *testing.T) {
	r := rand.New(rand.NewSource(2))
	for round := range 20000 {
		kind := kinds[round%len(kinds)]
		a, b, c, d := kind(r), kind(r), kind(r), kind(r)
		want, wantErr := false, api.ErrArg
		if plainSide(a, b, c)*plainSide(a, b, d) < 0 {
			want, wantErr = plainLegal(a, b, c, d), api.OK
		}
		if got, err := mesh.Legal(a, b, c, d); got != want || err != wantErr {
			t.Fatalf("Legal of %v, %v, %v, %v = %t, error %d, want %t, error %d", a, b, c, d, got, err, want, wantErr)
		}
		if got, err := mesh.Legal(b, a, d, c); got != want || err != wantErr {
			t.Fatalf("Legal of %v, %v, %v, %v = %t, error %d, want %t, error %d", b, a, d, c, got, err, want, wantErr)
		}
	}
}

// P6.3: of two diagonals of four places on a circle one is legal.
func TestLegalOnCircles(t *testing.T) {
	r := rand.New(rand.NewSource(3))
	for range 5000 {
		a, b, c, d := onCircle(r), onCircle(r), onCircle(r), onCircle(r)
		if plainSide(a, b, c)*plainSide(a, b, d) >= 0 {
			continue
		}
		first, err := mesh.Legal(a, b, c, d)
		second, err2 := mesh.Legal(c, d, a, b)
		if err != api.OK || err2 != api.OK || first == second {
			t.Fatalf("Legal of %v, %v, %v, %v = %t, error %d, and %t, error %d", a, b, c, d, first, err, second, err2)
		}
	}
}

// P6.3: errors in their order.
func TestLegalErrors(t *testing.T) {
	good := [4]api.XY{place(0, 0), place(2, 0), place(1, 1), place(1, -1)}
	check := func(p [4]api.XY, want api.Errno) {
		t.Helper()
		if ok, err := mesh.Legal(p[0], p[1], p[2], p[3]); err != want || err != api.OK && ok {
			t.Errorf("Legal of %v = %t, error %d, want %d", p, ok, err, want)
		}
	}
	check(good, api.OK)
	for _, n := range []int{-1 << 63, -limit - 1, limit + 1, 1<<63 - 1} {
		for k := range good {
			for _, bad := range []api.XY{place(n, 0), place(0, n)} {
				p := good
				p[k] = bad
				check(p, api.ErrPlace)
				p = [4]api.XY{}
				p[k] = bad
				check(p, api.ErrPlace)
			}
		}
	}
	for _, other := range []api.XY{place(1, 0), place(0, 0), place(2, 0), place(5, 0), place(1, 1), place(7, 3)} {
		p := good
		p[3] = other
		check(p, api.ErrArg)
	}
	check([4]api.XY{good[0], good[0], good[2], good[3]}, api.ErrArg)
	check([4]api.XY{good[0], good[1], place(3, 0), good[3]}, api.ErrArg)
	check([4]api.XY{}, api.ErrArg)
}

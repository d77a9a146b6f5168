package label_test

import (
	"math/rand"
	"slices"
	"testing"

	"lidar/api"
	"lidar/label"
	"lidar/mesh"
)

// landscape has 1024 points of hills, a house and a wood on 200 by 200 metres.
func landscape() ([]api.Point, api.Terrain) {
	r := rand.New(rand.NewSource(15))
	var points []api.Point
	for id := range api.MaxPoints {
		x, y := r.Intn(200001), r.Intn(200001)
		z := x/50 + y*y/40000000 + r.Intn(60)
		p := single(7*id, x, y, z)
		switch {
		case x > 60000 && x < 110000 && y > 60000 && y < 110000: // a house of 8 metres
			z = 10000
		case x > 130000 && y > 130000 && r.Intn(3) > 0: // a wood
			z += 300 + r.Intn(20000)
			p.Num, p.Of = 1, 2
		case r.Intn(100) == 0: // birds
			z += 60000
		}
		p.Z = api.Span{Lo: z - 20, Hi: z + 20}
		points = append(points, p)
	}
	return points, api.Terrain{Cell: 25000, Reach: 300, Slope: 200, Link: 20000, Flat: 100, Tall: 2500, High: 30000, Low: 5000, Brush: 400, Few: 8}
}

// P7.9, P7.12, P7.17: as many points as there may be.
func TestLandscape(t *testing.T) {
	points, r := landscape()
	ids, err := label.Ground(points, r)
	if err != api.OK || len(ids) < 300 {
		t.Fatalf("Ground returns %d points, error %d", len(ids), err)
	}
	if more := grow(t, points, ids, r); !slices.Equal(more, ids) {
		t.Errorf("Grow adds %d points", len(more)-len(ids))
	}
	m := surface(t, points, ids...)
	roofs, err := label.Roofs(points, ids, r)
	if err != api.OK || len(roofs) < 30 {
		t.Errorf("Roofs returns %d points, error %d", len(roofs), err)
	}
	count := map[int]int{}
	for i, c := range classify(t, points, r) {
		count[c]++
		if slices.Contains(ids, points[i].Id) != (c == api.Ground) || slices.Contains(roofs, points[i].Id) != (c == api.Roof) {
			t.Errorf("%v has the class %d", points[i], c)
		}
		if i%16 > 0 || c != api.Plant { // every function of a mesh takes its time to check it
			continue
		}
		if rise, ok, err := label.Rise(m, points[i]); !ok || err != api.OK || rise.Lo < r.Brush || rise.Lo > r.High {
			t.Errorf("the plant %v rises by %v, error %d", points[i], rise, err)
		}
	}
	if count[api.Plant] < 50 || count[api.Noise] < 5 || count[api.Other] == 0 {
		t.Errorf("there are %v points of each class", count)
	}
}

// P7.9: nearly as many rounds as points.
func TestManyRounds(t *testing.T) {
	r := example()
	r.Cell, r.Reach = 10000000, 11
	points := []api.Point{single(1000000, -1, -1, 0), single(1000001, 20000000, -1, 0), single(1000002, -1, 20000000, 0), single(1000003, 20000000, 20000000, 0)}
	for k := 1; k <= 400; k++ {
		points = append(points, single(k, 10*k, 10*k, 10*k))
	}
	ids, err := label.Ground(points, r)
	if err != api.OK || len(ids) != len(points) {
		t.Errorf("Ground returns %d points, error %d", len(ids), err)
	}
}

// P7.3, P7.5, P7.11: as many points as there may be, all near to each other, and a Few that needs all but those in the ground.
func TestAllPointsAreNear(t *testing.T) {
	r := example()
	r.Cell, r.Link, r.Low, r.Few = 10000000, 1000000, 1, 1020
	points := []api.Point{single(5000, 0, 0, 0), single(5001, 40, 0, 0), single(5002, 0, 40, 0), single(5003, 40, 40, 0)}
	for k := range 1020 {
		points = append(points, single(k, 1+k%32, 1+k/32, 50))
	}
	sunk, err := label.Sunk(points, r)
	expect(t, "Sunk", sunk, err, nil, api.OK)
	roofs, err := label.Roofs(points, idsOf(points[:4]), r)
	expect(t, "Roofs", roofs, err, sorted(idsOf(points[4:])), api.OK)
	r.Few = 1021
	roofs, err = label.Roofs(points, idsOf(points[:4]), r)
	expect(t, "Roofs", roofs, err, nil, api.OK)
	points[0].Z = api.Span{Lo: -2, Hi: -2}
	sunk, err = label.Sunk(points, r)
	expect(t, "Sunk", sunk, err, idsOf(points[:1]), api.OK)
}

// P7.6: a surface of as many points as there may be is the mesh of all of them.
func TestLargeSurface(t *testing.T) {
	points, _ := landscape()
	m := surface(t, points, idsOf(points)...)
	if err := mesh.Check(m); err != api.OK || len(m.V) != api.MaxPoints {
		t.Errorf("Check of a mesh of %d vertices: error %d", len(m.V), err)
	}
}

// P7.14: 64 edits with rings of 64 corners for 1024 points.
func TestManyEdits(t *testing.T) {
	points, _ := landscape()
	r := rand.New(rand.NewSource(16))
	edits := make([]api.Edit, api.MaxEdits)
	for i := range edits {
		ring := make([]api.XY, api.MaxRing)
		for k := range ring {
			ring[k] = place(r.Intn(200001), r.Intn(200001))
		}
		edits[i] = api.Edit{Ring: ring, From: []int{-1, 0, 1, 2}[i%4], To: i % 3}
	}
	got := correct(t, points[:64], make([]int, 64), edits)
	if want := plainCorrect(points[:64], make([]int, 64), edits); !slices.Equal(got, want) {
		t.Errorf("Correct returns %v, not %v", got, want)
	}
	if got := correct(t, points, make([]int, api.MaxPoints), edits); len(got) != api.MaxPoints {
		t.Errorf("Correct returns %d classes", len(got))
	}
}

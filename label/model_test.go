package label_test

import (
	"math/rand"
	"testing"

	"lidar/api"
	"lidar/label"
)

const scenes = 1500 // random ones of a test

// P7.3 to P7.5: what may be ground.
func TestSeedsOfScenes(t *testing.T) {
	r := rand.New(rand.NewSource(1))
	sunk, seeds := 0, 0
	for range scenes {
		s := randomScene(r)
		got, err := label.Sunk(s.points, s.rules)
		expect(t, "Sunk", got, err, plainSunk(s), api.OK)
		sunk += len(got)
		got, err = label.Lowest(s.points)
		expect(t, "Lowest", got, err, sorted(idsOf(plainLowest(s.points))), api.OK)
		got, err = label.Seeds(s.points, s.rules)
		expect(t, "Seeds", got, err, plainSeeds(s), api.OK)
		seeds += len(got)
	}
	if sunk < scenes/10 || seeds < scenes {
		t.Errorf("only %d points are sunk and %d are seeds", sunk, seeds)
	}
}

// P7.6, P7.7, P7.10: what is asked about a surface.
func TestSurfacesOfScenes(t *testing.T) {
	r := rand.New(rand.NewSource(2))
	fitting, outside := 0, 0
	for range scenes {
		s := randomScene(r)
		ids := someIds(r, s.points)
		m := surface(t, s.points, ids...)
		if want, _ := plainSurface(s.points, ids); !areEqual(m, want) {
			t.Fatalf("Surface of %v, %v returns %v, not %v", s.points, ids, m, want)
		}
		for _, p := range s.points {
			ok, far, err := label.Fits(m, p, s.rules)
			if wantOk, want := plainFits(m, p, s.rules); ok != wantOk || far != want || err != api.OK {
				t.Fatalf("Fits of %v, %v, %v returns %t, %d, error %d", m, p, s.rules, ok, far, err)
			}
			if ok {
				fitting++
			}
			rise, ok, err := label.Rise(m, p)
			if want, wantOk := plainRise(m, p); ok != wantOk || rise != want || err != api.OK {
				t.Fatalf("Rise of %v, %v returns %v, %t, error %d", m, p, rise, ok, err)
			}
			if !ok {
				outside++
			}
		}
	}
	if fitting < scenes/10 || outside < scenes/10 {
		t.Errorf("only %d points fit and %d are outside", fitting, outside)
	}
}

// P7.8, P7.9: rounds, from any ground and from the seeds.
func TestGroundOfScenes(t *testing.T) {
	r := rand.New(rand.NewSource(3))
	added := 0
	for range scenes / 2 {
		s := randomScene(r)
		ids := someIds(r, s.points)
		got, err := label.Grow(s.points, ids, s.rules)
		expect(t, "Grow", got, err, plainGrow(s, ids), api.OK)
		added += len(got) - len(ids)
		got, err = label.Ground(s.points, s.rules)
		expect(t, "Ground", got, err, plainGround(s), api.OK)
		added += len(got) - len(plainSeeds(s))
	}
	if added < scenes {
		t.Errorf("only %d points are added", added)
	}
}

// P7.11: roofs over any ground.
func TestRoofsOfScenes(t *testing.T) {
	r := rand.New(rand.NewSource(4))
	roofs, rest := 0, 0
	for range scenes {
		s := randomScene(r)
		ids := someIds(r, s.points)
		got, err := label.Roofs(s.points, ids, s.rules)
		expect(t, "Roofs", got, err, plainRoofs(s, ids), api.OK)
		roofs += len(got)
		rest += len(plainHigh(s, ids)) - len(got)
	}
	if roofs < scenes/20 || rest < scenes/20 {
		t.Errorf("only %d high points are roofs and %d are not", roofs, rest)
	}
}

// P7.12: classes.
func TestClassesOfScenes(t *testing.T) {
	r := rand.New(rand.NewSource(5))
	count := map[int]int{}
	for range scenes / 2 {
		s := randomScene(r)
		got, err := label.Classify(s.points, s.rules)
		expect(t, "Classify", got, err, plainClassify(s), api.OK)
		for _, c := range got {
			count[c]++
		}
	}
	for _, c := range []int{api.Other, api.Ground, api.Plant, api.Roof, api.Noise} {
		if count[c] < scenes/10 {
			t.Errorf("only %d points have the class %d", count[c], c)
		}
	}
}

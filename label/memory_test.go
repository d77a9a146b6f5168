package label_test

import (
	"math/rand"
	"slices"
	"testing"

	"lidar/api"
	"lidar/label"
)

// behind returns a list with more in the memory behind it, and all of it.
func behind[T any](list []T, more ...T) (short, all []T) {
	all = append(slices.Clip(list), more...)
	return all[:len(list)], all
}

// R4: arguments stay as they are, and what lies behind their ends is neither read nor written.
func TestArgumentsStay(t *testing.T) {
	r := rand.New(rand.NewSource(14))
	for range 100 {
		s := randomScene(r)
		points, allPoints := behind(s.points, single(3, 0, 0, 0), api.Point{Id: -1}, api.Point{})
		ids, allIds := behind(someIds(r, points), 3, -7, 12)
		classes, allClasses := behind(make([]int, len(points)), 7, 8, 9)
		ring, allCorners := behind([]api.XY{place(-3, -3), place(8, 0), place(0, 8)}, place(limit+1, 0))
		edits, allEdits := behind([]api.Edit{{Id: 5, To: api.Roof}, {Ring: ring, From: -1, To: api.Plant}}, api.Edit{To: 99})
		m := surface(t, points, ids...)
		m.V, _ = behind(m.V, api.Vertex{X: limit + 1})
		m.T, _ = behind(m.T, [3]int{7, 7, 7})
		vertices, triangles := slices.Clone(m.V[:cap(m.V)]), slices.Clone(m.T[:cap(m.T)])
		beforePoints, beforeIds, beforeClasses := slices.Clone(allPoints), slices.Clone(allIds), slices.Clone(allClasses)
		beforeCorners, beforeEdits := slices.Clone(allCorners), slices.Clone(allEdits)
		isSame := func(a, b api.Edit) bool {
			return a.Id == b.Id && a.From == b.From && a.To == b.To && slices.Equal(a.Ring, b.Ring)
		}
		point := single(1, 0, 0, 0)
		if len(points) > 0 {
			point = points[0]
		}
		in := input{points: points, rules: s.rules, ids: ids, mesh: m, classes: classes, edits: edits, ring: ring, at: place(1, 1)}
		for name, call := range calls {
			if len(points) == 0 && (name == "Fits" || name == "Rise") {
				continue
			}
			_, err := call(in)
			if err != api.OK || !slices.Equal(allPoints, beforePoints) || !slices.Equal(allIds, beforeIds) || !slices.Equal(allClasses, beforeClasses) ||
				!slices.Equal(allCorners, beforeCorners) || !slices.EqualFunc(allEdits, beforeEdits, isSame) ||
				!slices.Equal(m.V[:cap(m.V)], vertices) || !slices.Equal(m.T[:cap(m.T)], triangles) {
				t.Fatalf("%s, error %d, has changed an argument", name, err)
			}
		}
		if !label.Valid(points) || len(points) > 0 && points[0] != point {
			t.Fatal("Valid has read too much")
		}
	}
}

// R4: results are new memory.
func TestResultsAreNew(t *testing.T) {
	points, ring := three()
	classes := []int{1, 2, 5}
	for _, edits := range [][]api.Edit{nil, {{Ring: ring, From: -1, To: api.Plant}}} {
		got := correct(t, points, classes, edits)
		clear(got[:cap(got)])
		if !slices.Equal(classes, []int{1, 2, 5}) {
			t.Fatalf("the classes have become %v", classes)
		}
	}
	sortedPoints := with(frame(), single(5, 50, 20, 50))
	before := slices.Clone(sortedPoints)
	list, err := label.Label(sortedPoints, example(), nil)
	if err != api.OK || len(list) != 5 {
		t.Fatalf("Label returns %v, error %d", list, err)
	}
	clear(list[:cap(list)])
	ids := []int{1, 2, 3, 4}
	grown := grow(t, sortedPoints, ids, example())
	clear(grown[:cap(grown)])
	m := surface(t, sortedPoints, ids...)
	clear(m.V[:cap(m.V)])
	if !slices.Equal(sortedPoints, before) || !slices.Equal(ids, []int{1, 2, 3, 4}) {
		t.Errorf("the arguments have become %v, %v", sortedPoints, ids)
	}
}

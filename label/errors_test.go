package label_test

import (
	"testing"

	"lidar/api"
	"lidar/label"
)

// input is what a call may be given.
type input struct {
	points  []api.Point
	rules   api.Terrain
	ids     []int
	mesh    api.Mesh
	classes []int
	edits   []api.Edit
	ring    []api.XY
	at      api.XY
}

func goodInput(t *testing.T) input {
	points := with(frame(), single(5, 50, 50, 1), single(6, 60, 50, 50))
	return input{
		points: points, rules: example(), ids: []int{4, 2, 1, 3}, mesh: surface(t, points, 1, 2, 3, 4), classes: make([]int, 6),
		edits: []api.Edit{{Id: 5, To: api.Plant}}, ring: []api.XY{{}, {X: 4}, {Y: 4}}, at: place(1, 1),
	}
}

// calls make the calls of the layer that may fail, and report whether the result is the zero value.
var calls = map[string]func(in input) (bool, api.Errno){
	"Sunk":     func(in input) (bool, api.Errno) { return isNone(label.Sunk(in.points, in.rules)) },
	"Lowest":   func(in input) (bool, api.Errno) { return isNone(label.Lowest(in.points)) },
	"Seeds":    func(in input) (bool, api.Errno) { return isNone(label.Seeds(in.points, in.rules)) },
	"Grow":     func(in input) (bool, api.Errno) { return isNone(label.Grow(in.points, in.ids, in.rules)) },
	"Ground":   func(in input) (bool, api.Errno) { return isNone(label.Ground(in.points, in.rules)) },
	"Roofs":    func(in input) (bool, api.Errno) { return isNone(label.Roofs(in.points, in.ids, in.rules)) },
	"Classify": func(in input) (bool, api.Errno) { return isNone(label.Classify(in.points, in.rules)) },
	"Correct":  func(in input) (bool, api.Errno) { return isNone(label.Correct(in.points, in.classes, in.edits)) },
	"Label":    func(in input) (bool, api.Errno) { return isNone(label.Label(in.points, in.rules, in.edits)) },
	"Surface": func(in input) (bool, api.Errno) {
		m, err := label.Surface(in.points, in.ids)
		return areEqual(m, api.Mesh{}), err
	},
	"Fits": func(in input) (bool, api.Errno) {
		ok, far, err := label.Fits(in.mesh, in.points[0], in.rules)
		return !ok && far == 0, err
	},
	"Rise": func(in input) (bool, api.Errno) {
		rise, ok, err := label.Rise(in.mesh, in.points[0])
		return !ok && rise == api.Span{}, err
	},
	"Within": func(in input) (bool, api.Errno) {
		ok, err := label.Within(in.ring, in.at)
		return !ok, err
	},
}

func isNone[T any](list []T, err api.Errno) (bool, api.Errno) {
	return len(list) == 0, err
}

// fault is what makes an input wrong, and the error that it leads to in the calls that look at it.
type fault struct {
	err   api.Errno
	spoil func(in *input)
	calls []string // in the order of errors, the fault comes after all of those above it
}

// faults are in the order of P7.1, and of the promises P7.6 to P7.8, P7.10, P7.11 and P7.13 to P7.15.
var faults = []fault{
	{api.ErrTerrain, func(in *input) { in.rules.Cell = 0 }, []string{"Sunk", "Seeds", "Grow", "Ground", "Roofs", "Classify", "Label", "Fits"}},
	{api.ErrPoint, func(in *input) { in.points[0].Wide = -1 }, []string{"Sunk", "Lowest", "Seeds", "Grow", "Ground", "Roofs", "Classify", "Correct", "Label", "Surface", "Fits", "Rise"}},
	{api.ErrMesh, func(in *input) { in.mesh.T = in.mesh.T[:1] }, []string{"Fits", "Rise"}},
	{api.ErrArg, func(in *input) { in.ids = append(in.ids, 9) }, []string{"Surface", "Grow", "Roofs"}},
	{api.ErrArg, func(in *input) { in.classes = in.classes[1:] }, []string{"Correct"}},
	{api.ErrArg, func(in *input) { in.edits = append(make([]api.Edit, 64), in.edits...) }, []string{"Correct", "Label"}},
	{api.ErrEdit, func(in *input) { in.edits[0].To = 3 }, []string{"Correct", "Label"}},
	{api.ErrPlace, func(in *input) { in.points[1].X = 0 }, []string{"Surface", "Grow", "Roofs"}},
	{api.ErrRing, func(in *input) { in.ring = in.ring[:2] }, []string{"Within"}},
	{api.ErrPlace, func(in *input) { in.at.X = limit + 1 }, []string{"Within"}},
}

// P7.1, R2: of several errors the first one applies; with an error, the result is zero. All sets of faults are tried.
func TestOrderOfErrors(t *testing.T) {
	for set := range 1 << len(faults) {
		want := map[string]api.Errno{}
		in := goodInput(t)
		for i := len(faults) - 1; i >= 0; i-- {
			if set>>i&1 == 0 {
				continue
			}
			faults[i].spoil(&in)
			for _, name := range faults[i].calls {
				want[name] = faults[i].err
			}
		}
		for name, call := range calls {
			zero, err := call(in)
			if err != want[name] || err != api.OK && !zero {
				t.Fatalf("%s of the faults %b: error %d, not %d; the result is zero: %t", name, set, err, want[name], zero)
			}
		}
	}
}

// P7.6, P7.8, P7.11: an Id that is not that of a point, or that is there twice, is ErrArg, also if two points are at one place.
func TestListsOfIds(t *testing.T) {
	points := with(frame(), single(5, 0, 0, 9))
	for _, c := range []struct {
		ids  []int
		want api.Errno
	}{
		{nil, api.OK}, {[]int{3}, api.OK}, {[]int{5, 2, 4, 3}, api.OK}, {[]int{1, 5}, api.ErrPlace},
		{[]int{6}, api.ErrArg}, {[]int{-1}, api.ErrArg}, {[]int{1, 2, 1}, api.ErrArg}, {[]int{1, 5, 1}, api.ErrArg}, {[]int{1, 5, 0}, api.ErrArg},
		{make([]int, 5000), api.ErrArg},
	} {
		in := input{points: points, rules: example(), ids: c.ids}
		for _, name := range []string{"Surface", "Grow", "Roofs"} {
			if _, err := calls[name](in); err != c.want {
				t.Errorf("%s of %d Ids, %v: error %d, not %d", name, len(c.ids), c.ids[:min(len(c.ids), 5)], err, c.want)
			}
		}
	}
}

// P7.1: too many points are ErrPoint, whatever they are.
func TestTooManyPoints(t *testing.T) {
	in := goodInput(t)
	in.points = many(1025)
	in.classes = make([]int, 1025)
	for _, name := range []string{"Sunk", "Lowest", "Seeds", "Grow", "Ground", "Roofs", "Classify", "Correct", "Label", "Surface"} {
		if zero, err := calls[name](in); err != api.ErrPoint || !zero {
			t.Errorf("%s of 1025 points: error %d", name, err)
		}
	}
}

// No points are points too.
func TestNoPoints(t *testing.T) {
	for name, call := range calls {
		in := goodInput(t)
		if name == "Fits" || name == "Rise" || name == "Within" {
			continue
		}
		in.points, in.ids, in.classes = nil, nil, nil
		if zero, err := call(in); err != api.OK || !zero {
			t.Errorf("%s of no points: error %d", name, err)
		}
	}
}

// P7.7, P7.10: with a mesh without triangles, nothing lies in one.
func TestEmptyMesh(t *testing.T) {
	if ok, far, err := label.Fits(api.Mesh{}, single(1, 0, 0, 0), example()); ok || far != 0 || err != api.OK {
		t.Errorf("Fits returns %t, %d, error %d", ok, far, err)
	}
	if rise, ok, err := label.Rise(api.Mesh{}, single(1, 0, 0, 0)); ok || rise != (api.Span{}) || err != api.OK {
		t.Errorf("Rise returns %v, %t, error %d", rise, ok, err)
	}
}

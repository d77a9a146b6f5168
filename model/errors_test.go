package model_test

import (
	"testing"

	"lidar/api"
	"lidar/model"
)

// asked is what the functions may be given.
type asked struct {
	mesh  api.Mesh
	f     api.Raster
	most  int
	a, b  api.Grid
	k     int
	few   int
	nodes []int
	base  int
}

func good(t *testing.T) *asked {
	f := api.Raster{Step: 10, NX: 3, NY: 2}
	return &asked{
		mesh: build(t, []api.Vertex{vertex(0, 0, 0, 1), vertex(20, 0, 5, 5), vertex(0, 20, 7, 9)}),
		f:    f, most: 100, a: full(f, cell(1, 2)), b: full(f, cell(4, 5)), k: 2, few: 1, nodes: []int{0, 4}, base: 7,
	}
}

// fault makes one thing wrong.
type fault struct {
	err   api.Errno
	spoil func(x *asked)
}

var (
	noMesh      = fault{api.ErrMesh, func(x *asked) { x.mesh.T = append(x.mesh.T, x.mesh.T...) }}
	noRaster    = fault{api.ErrGrid, func(x *asked) { x.f.NX = 65 }}
	longLimit   = fault{api.ErrArg, func(x *asked) { x.most = 1<<30 + 1 }}
	shortLimit  = fault{api.ErrArg, func(x *asked) { x.most = -1 }}
	noFirst     = fault{api.ErrGrid, func(x *asked) { x.a.Cells[3].Z.Hi = -1 }}
	noSecond    = fault{api.ErrGrid, func(x *asked) { x.b.Cells = x.b.Cells[:5] }}
	otherRaster = fault{api.ErrRaster, func(x *asked) { x.b.Raster.X0++ }}
	noFactor    = fault{api.ErrArg, func(x *asked) { x.k = 0 }}
	noSize      = fault{api.ErrArg, func(x *asked) { x.few = 0 }}
	badSize     = fault{api.ErrArg, func(x *asked) { x.few = -1 << 63 }}
	noNode      = fault{api.ErrNode, func(x *asked) { x.nodes = append(x.nodes, 6) }}
	twice       = fault{api.ErrArg, func(x *asked) { x.nodes = append(x.nodes, 0) }}
	voidFirst   = fault{api.ErrArg, func(x *asked) { x.a.Cells[4] = void }}
	voidSecond  = fault{api.ErrArg, func(x *asked) { x.b.Cells[0] = void }}
	noBase      = fault{api.ErrArg, func(x *asked) { x.base = limit + 1 }}
)

// calls are all functions with errors but Node and Decode, with their faults in the order of errors. Each reports whether its results are zero.
var calls = []struct {
	name   string
	faults []fault
	call   func(x *asked) (bool, api.Errno)
}{
	{"Render", []fault{noMesh, noRaster, longLimit}, func(x *asked) (bool, api.Errno) {
		g, err := model.Render(x.mesh, x.f, x.most)
		return sameGrid(g, api.Grid{}), err
	}},
	{"Render", []fault{noMesh, noRaster, shortLimit}, func(x *asked) (bool, api.Errno) {
		g, err := model.Render(x.mesh, x.f, x.most)
		return sameGrid(g, api.Grid{}), err
	}},
	{"Voids", []fault{noFirst}, func(x *asked) (bool, api.Errno) {
		x.a.Cells[0] = void
		holes, err := model.Voids(x.a)
		return len(holes) == 0, err
	}},
	{"Thin", []fault{noFirst, noFactor}, func(x *asked) (bool, api.Errno) {
		g, err := model.Thin(x.a, x.k)
		return sameGrid(g, api.Grid{}), err
	}},
	{"Coarse", []fault{noFirst, noFactor}, func(x *asked) (bool, api.Errno) {
		g, err := model.Coarse(x.a, x.k)
		return sameGrid(g, api.Grid{}), err
	}},
	{"Compare", []fault{noFirst, noSecond, otherRaster}, func(x *asked) (bool, api.Errno) {
		states, err := model.Compare(x.a, x.b)
		return len(states) == 0, err
	}},
	{"Consistent", []fault{noFirst, noSecond, otherRaster}, func(x *asked) (bool, api.Errno) {
		x.b.Cells[0], x.b.Cells[1], x.b.Cells[2], x.b.Cells[3], x.b.Cells[4] = void, void, void, void, void
		if len(x.b.Cells) > 5 {
			x.b.Cells[5] = void
		}
		is, err := model.Consistent(x.a, x.b)
		return !is, err
	}},
	{"Common", []fault{noFirst, noSecond, otherRaster}, func(x *asked) (bool, api.Errno) {
		g, err := model.Common(x.a, x.b)
		return sameGrid(g, api.Grid{}), err
	}},
	{"Regions", []fault{noFirst, noSecond, otherRaster, noSize}, func(x *asked) (bool, api.Errno) {
		list, err := model.Regions(x.a, x.b, x.few)
		return len(list) == 0, err
	}},
	{"Regions", []fault{noFirst, noSecond, otherRaster, badSize}, func(x *asked) (bool, api.Errno) {
		list, err := model.Regions(x.a, x.b, x.few)
		return len(list) == 0, err
	}},
	{"Amount", []fault{noFirst, noSecond, otherRaster, noNode, twice, voidFirst, voidSecond}, func(x *asked) (bool, api.Errno) {
		lo, hi, err := model.Amount(x.a, x.b, x.nodes)
		return isZero(lo) && isZero(hi), err
	}},
	{"Cut", []fault{noFirst, noBase}, func(x *asked) (bool, api.Errno) {
		lo, hi, err := model.Cut(x.a, x.base)
		return isZero(lo) && isZero(hi), err
	}},
	{"Encode", []fault{noFirst}, func(x *asked) (bool, api.Errno) {
		b, err := model.Encode(x.a)
		return len(b) == 0, err
	}},
}

// P9.1, R2: of several errors the first one applies, and with an error the results are zero. All sets of faults are tried.
func TestOrderOfErrors(t *testing.T) {
	for _, c := range calls {
		for set := range 1 << len(c.faults) {
			x, want := good(t), api.OK
			for i := len(c.faults) - 1; i >= 0; i-- {
				if set>>i&1 == 1 {
					c.faults[i].spoil(x)
					want = c.faults[i].err
				}
			}
			zero, err := c.call(x)
			if err != want || zero == (want == api.OK) {
				t.Errorf("%s with the faults %b: error %d, not %d, zero results %t", c.name, set, err, want, zero)
			}
		}
	}
}

// P9.1: each grid that is not valid is ErrGrid, as the first one and as the second one; so is each such raster.
func TestBadGrids(t *testing.T) {
	for _, bad := range badGrids() {
		for _, c := range calls {
			x := good(t)
			if x.a = bad; c.name == "Render" {
				x.f = bad.Raster
				if model.ValidRaster(x.f) {
					continue
				}
			}
			if c.name == "Consistent" || c.name == "Voids" {
				continue // they make cells void
			}
			if zero, err := c.call(x); err != api.ErrGrid || !zero {
				t.Errorf("%s of %v: error %d, zero results %t", c.name, bad, err, zero)
			}
		}
		if holes, err := model.Voids(bad); err != api.ErrGrid || len(holes) > 0 {
			t.Errorf("Voids of %v: %v, error %d", bad, holes, err)
		}
		for _, pair := range [][2]api.Grid{{bad, good(t).b}, {good(t).a, bad}, {bad, bad}} {
			if is, err := model.Consistent(pair[0], pair[1]); err != api.ErrGrid || is {
				t.Errorf("Consistent of %v: %t, error %d", pair, is, err)
			}
			if states, err := model.Compare(pair[0], pair[1]); err != api.ErrGrid || len(states) > 0 {
				t.Errorf("Compare of %v: %v, error %d", pair, states, err)
			}
		}
	}
}

// P9.1: grids of different rasters cannot be compared, whatever differs.
func TestOtherRasters(t *testing.T) {
	for _, f := range []api.Raster{{X0: 1, Step: 10, NX: 3, NY: 2}, {Y0: -1, Step: 10, NX: 3, NY: 2}, {Step: 11, NX: 3, NY: 2}, {Step: 10, NX: 2, NY: 3}, {Step: 10, NX: 6, NY: 1}, {Step: 10, NX: 3, NY: 3}} {
		x := good(t)
		x.b = full(f, cell(1, 2))
		for _, c := range calls {
			if c.name != "Compare" && c.name != "Common" && c.name != "Regions" && c.name != "Amount" && c.name != "Consistent" {
				continue
			}
			if zero, err := c.call(x); err != api.ErrRaster || !zero {
				t.Errorf("%s with the raster %v: error %d, zero results %t", c.name, f, err, zero)
			}
		}
	}
}

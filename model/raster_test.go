package model_test

import (
	"math/rand"
	"testing"

	"lidar/api"
	"lidar/model"
)

// P9.2
func TestValidRaster(t *testing.T) {
	r := rand.New(rand.NewSource(1))
	for _, f := range []api.Raster{
		{Step: 1, NX: 1, NY: 1},
		{Step: mostStep, NX: 64, NY: 64},
		{X0: limit, Y0: limit, Step: mostStep, NX: 1, NY: 1},
		{X0: -limit, Y0: -limit, Step: 1, NX: 64, NY: 1},
		{X0: limit - 63*mostStep, Y0: limit - 2*mostStep, Step: mostStep, NX: 64, NY: 3},
	} {
		if !model.ValidRaster(f) {
			t.Errorf("%v is not valid", f)
		}
	}
	for range 1000 {
		if f := randomRaster(r); !model.ValidRaster(f) {
			t.Errorf("%v is not valid", f)
		}
	}
	for _, f := range append(badRasters(), api.Raster{}) {
		if model.ValidRaster(f) {
			t.Errorf("%v is valid", f)
		}
	}
}

// P9.2
func TestValid(t *testing.T) {
	r := rand.New(rand.NewSource(2))
	for _, g := range []api.Grid{row(void), row(cell(-limit, limit)), row(cell(limit, limit), void, cell(-limit, -limit)), full(api.Raster{Step: 1, NX: 64, NY: 64}, cell(7, 9))} {
		if !model.Valid(g) {
			t.Errorf("%v is not valid", g)
		}
	}
	for range 1000 {
		if g := randomGrid(r, randomRaster(r)); !model.Valid(g) {
			t.Errorf("%v is not valid", g)
		}
	}
	for _, g := range badGrids() {
		if model.Valid(g) {
			t.Errorf("%v is valid", g)
		}
	}
}

// P9.2
func TestNode(t *testing.T) {
	r := rand.New(rand.NewSource(3))
	for range 300 {
		f := randomRaster(r)
		i := 0
		for y := range f.NY {
			for x := range f.NX {
				want := api.XY{X: f.X0 + x*f.Step, Y: f.Y0 + y*f.Step}
				if at, err := model.Node(f, i); err != api.OK || at != want {
					t.Fatalf("Node %d of %v is at %v, error %d, not at %v", i, f, at, err, want)
				}
				i++
			}
		}
		for _, i := range []int{-1, i, i + 1, -1 << 63, 1<<63 - 1} {
			if at, err := model.Node(f, i); err != api.ErrNode || at != (api.XY{}) {
				t.Errorf("Node %d of %v is at %v, error %d", i, f, at, err)
			}
		}
	}
	for _, f := range append(badRasters(), api.Raster{}) {
		for _, i := range []int{0, -1, 100} {
			if at, err := model.Node(f, i); err != api.ErrGrid || at != (api.XY{}) {
				t.Errorf("Node %d of %v is at %v, error %d", i, f, at, err)
			}
		}
	}
}

package model_test

import (
	"math/rand"
	"slices"
	"testing"

	"lidar/api"
	"lidar/model"
)

type leveller = func(g api.Grid, k int) (api.Grid, api.Errno)

func level(t *testing.T, f leveller, g api.Grid, k int) api.Grid {
	t.Helper()
	out, err := f(g, k)
	if err != api.OK || !model.Valid(out) {
		t.Fatalf("a level of %v with %d: %v, error %d", g, k, out, err)
	}
	return out
}

// plainLevels puts each cell into the coarse cell to which its column and row belong.
func plainLevels(g api.Grid, k int) (thin, coarse api.Grid) {
	f := g.Raster
	f.Step *= k
	f.NX, f.NY = (f.NX-1)/k+1, (f.NY-1)/k+1
	thin, coarse = full(f, void), full(f, void)
	for i, c := range g.Cells {
		x, y := columnOf(g.Raster, i), rowOf(g.Raster, i)
		at := y/k*f.NX + x/k
		if x%k == 0 && y%k == 0 {
			thin.Cells[at] = c
		}
		if c.Void {
			continue
		}
		into := &coarse.Cells[at]
		if into.Void {
			*into = c
		}
		into.Z.Lo, into.Z.Hi = min(into.Z.Lo, c.Z.Lo), max(into.Z.Hi, c.Z.Hi)
	}
	return thin, coarse
}

// P9.5
func TestThinAndCoarse(t *testing.T) {
	r := rand.New(rand.NewSource(31))
	for range 500 {
		f := randomRaster(r)
		g := randomGrid(r, f)
		most := mostStep / f.Step
		for _, k := range []int{1, 2, 3, 7, 63, 64, 65, most, 1 + r.Intn(most)} {
			if k > most {
				continue
			}
			thin, coarse := plainLevels(g, k)
			if got := level(t, model.Thin, g, k); !sameGrid(got, thin) {
				t.Fatalf("Thin of %v with %d: %v, not %v", g, k, got, thin)
			}
			if got := level(t, model.Coarse, g, k); !sameGrid(got, coarse) {
				t.Fatalf("Coarse of %v with %d: %v, not %v", g, k, got, coarse)
			}
		}
	}
}

// P9.5: the example.
func TestLevelsOfRow(t *testing.T) {
	g := row(cell(0, 1), void, cell(5, 6), void, void)
	want := []api.Cell{cell(0, 1), cell(5, 6), void}
	for _, f := range []leveller{model.Thin, model.Coarse} {
		if got := level(t, f, g, 2); !slices.Equal(got.Cells, want) {
			t.Errorf("with 2: %v, not %v", got, want)
		}
	}
	if got := level(t, model.Coarse, g, 3); !slices.Equal(got.Cells, []api.Cell{cell(0, 6), void}) {
		t.Errorf("Coarse with 3: %v", got)
	}
}

// P9.5: Step * k may be as great as a step, and what it would be beyond an int plays no part.
func TestLevelArguments(t *testing.T) {
	small := row(cell(1, 2), void)
	great := api.Grid{Raster: api.Raster{Step: mostStep, NX: 2, NY: 1}, Cells: small.Cells}
	odd := api.Grid{Raster: api.Raster{Step: 3, NX: 2, NY: 1}, Cells: small.Cells}
	for _, f := range []leveller{model.Thin, model.Coarse} {
		for _, c := range []struct {
			g api.Grid
			k int
		}{{small, 100000}, {great, 1}, {odd, 333333}} {
			level(t, f, c.g, c.k)
			for _, k := range []int{c.k + 1, 0, -1, -c.k, -1 << 63, 1<<63 - 1, 1 << 61, 1 << 62} {
				if out, err := f(c.g, k); err != api.ErrArg || !sameGrid(out, api.Grid{}) {
					t.Errorf("a level of %v with %d: %v, error %d", c.g, k, out, err)
				}
			}
		}
	}
}

// P9.12
func TestLevelsOfLevels(t *testing.T) {
	r := rand.New(rand.NewSource(32))
	for range 300 {
		f := randomRaster(r)
		f.Step = min(f.Step, 1000)
		g := randomGrid(r, f)
		j, k := 1+r.Intn(5), 1+r.Intn(5)
		for _, f := range []leveller{model.Thin, model.Coarse} {
			if got, want := level(t, f, level(t, f, g, j), k), level(t, f, g, j*k); !sameGrid(got, want) {
				t.Fatalf("levels of %v with %d and %d: %v, not %v", g, j, k, got, want)
			}
		}
		coarse := level(t, model.Coarse, g, k)
		for i, c := range level(t, model.Thin, g, k).Cells {
			if w := coarse.Cells[i]; !c.Void && (w.Void || w.Z.Lo > c.Z.Lo || w.Z.Hi < c.Z.Hi) {
				t.Fatalf("node %d of %v with %d: %v does not lie within %v", i, g, k, c, w)
			}
		}
	}
}

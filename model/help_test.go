package model_test

import (
	"math/big"
	"math/rand"
	"slices"
	"testing"

	"lidar/api"
	"lidar/model"
)

const (
	limit    = 1 << 28 // of coordinates and heights
	mostStep = 1000000
)

var void = api.Cell{Void: true}

func cell(lo, hi int) api.Cell {
	return api.Cell{Z: api.Span{Lo: lo, Hi: hi}}
}

// row is a grid of one row.
func row(cells ...api.Cell) api.Grid {
	return api.Grid{Raster: api.Raster{Step: 10, NX: len(cells), NY: 1}, Cells: cells}
}

// full is a grid with the same cell at each node.
func full(f api.Raster, c api.Cell) api.Grid {
	return api.Grid{Raster: f, Cells: slices.Repeat([]api.Cell{c}, f.NX*f.NY)}
}

// drawn is a grid with a character for each node: a digit is an exact height, anything else is void.
func drawn(rows ...string) api.Grid {
	g := api.Grid{Raster: api.Raster{X0: 3, Y0: -4, Step: 7, NX: len(rows[0]), NY: len(rows)}}
	for _, text := range rows {
		for _, c := range text {
			if c < '0' || c > '9' {
				g.Cells = append(g.Cells, void)
			} else {
				g.Cells = append(g.Cells, cell(int(c-'0'), int(c-'0')))
			}
		}
	}
	return g
}

func columnOf(f api.Raster, i int) int {
	return i % f.NX
}

func rowOf(f api.Raster, i int) int {
	return i / f.NX
}

func placeOf(f api.Raster, i int) api.XY {
	return api.XY{X: f.X0 + columnOf(f, i)*f.Step, Y: f.Y0 + rowOf(f, i)*f.Step}
}

func sameGrid(a, b api.Grid) bool {
	return a.Raster == b.Raster && slices.Equal(a.Cells, b.Cells)
}

func copyOf(g api.Grid) api.Grid {
	return api.Grid{Raster: g.Raster, Cells: slices.Clone(g.Cells)}
}

// randomRaster returns a raster of any size and at any place.
func randomRaster(r *rand.Rand) api.Raster {
	f := api.Raster{Step: 1 + r.Intn(mostStep)>>r.Intn(20), NX: 1 + r.Intn(7), NY: 1 + r.Intn(7)}
	switch r.Intn(8) {
	case 0:
		f.NX = api.MaxNodes
	case 1:
		f.NY = api.MaxNodes
	case 2:
		f.Step = mostStep
	}
	along := func(n int) int {
		most := limit - (n-1)*f.Step
		return []int{-limit, most, 0, r.Intn(limit+most+1) - limit}[r.Intn(4)]
	}
	f.X0, f.Y0 = along(f.NX), along(f.NY)
	return f
}

// kinds of cells that are not void: a few heights, any heights, those at the limits, and heights that are known badly.
var kinds = []func(r *rand.Rand) api.Cell{
	func(r *rand.Rand) api.Cell { lo := r.Intn(4); return cell(lo, lo) },
	func(r *rand.Rand) api.Cell { lo := r.Intn(6); return cell(lo, lo+r.Intn(3)) },
	func(r *rand.Rand) api.Cell {
		lo := r.Intn(2*limit+1) - limit
		return cell(lo, lo+r.Intn(limit-lo+1)>>r.Intn(30))
	},
	func(r *rand.Rand) api.Cell { return []api.Cell{cell(-limit, -limit), cell(limit, limit)}[r.Intn(2)] },
	func(r *rand.Rand) api.Cell { lo := -r.Intn(limit + 1); return cell(lo, r.Intn(limit+1)) },
}

// randomGrid returns a grid with this raster, with none, some or many void nodes.
func randomGrid(r *rand.Rand, f api.Raster) api.Grid {
	g := api.Grid{Raster: f}
	kind, voids := kinds[r.Intn(len(kinds))], []int{0, 1, 3, 7, 10}[r.Intn(5)]
	for range f.NX * f.NY {
		c := kind(r)
		if r.Intn(10) < voids {
			c = void
		}
		g.Cells = append(g.Cells, c)
	}
	return g
}

// randomPair returns two grids with one raster, the second one often with many cells of the first one.
func randomPair(r *rand.Rand) (a, b api.Grid) {
	f := randomRaster(r)
	a, b = randomGrid(r, f), randomGrid(r, f)
	if same := r.Intn(4); same > 0 {
		for i := range b.Cells {
			if r.Intn(4) < same {
				b.Cells[i] = a.Cells[i]
			}
		}
	}
	return a, b
}

// badRasters are rasters that are not valid, each by one field, which may be far out of range.
func badRasters() []api.Raster {
	var list []api.Raster
	for _, spoil := range []func(f *api.Raster){
		func(f *api.Raster) { f.Step = 0 },
		func(f *api.Raster) { f.Step = -1 },
		func(f *api.Raster) { f.Step = mostStep + 1 },
		func(f *api.Raster) { f.Step = 1 << 62 },
		func(f *api.Raster) { f.NX = 0 },
		func(f *api.Raster) { f.NX = -3 },
		func(f *api.Raster) { f.NX = api.MaxNodes + 1 },
		func(f *api.Raster) { f.NX = 1 << 62 },
		func(f *api.Raster) { f.NY = 0 },
		func(f *api.Raster) { f.NY = -1 << 63 },
		func(f *api.Raster) { f.NY = api.MaxNodes + 1 },
		func(f *api.Raster) { f.NX, f.NY = -3, -2 },
		func(f *api.Raster) { f.X0 = -limit - 1 },
		func(f *api.Raster) { f.Y0 = -limit - 1 },
		func(f *api.Raster) { f.X0 = limit - 19 },
		func(f *api.Raster) { f.Y0 = limit - 9 },
		func(f *api.Raster) { f.X0 = 1<<63 - 1 },
		func(f *api.Raster) { f.Y0 = -1 << 63 },
	} {
		f := api.Raster{X0: 5, Y0: -5, Step: 10, NX: 3, NY: 2}
		spoil(&f)
		list = append(list, f)
	}
	return list
}

// badGrids are grids that are not valid, each by one thing.
func badGrids() []api.Grid {
	f := api.Raster{X0: 5, Y0: -5, Step: 10, NX: 3, NY: 2}
	list := []api.Grid{{}, {Raster: f}, full(api.Raster{Step: 10, NX: 65, NY: 1}, void)}
	for _, f := range badRasters() {
		list = append(list, api.Grid{Raster: f, Cells: slices.Repeat([]api.Cell{void}, 6)})
	}
	for _, c := range []api.Cell{
		cell(1, 0), cell(-limit-1, 0), cell(0, limit+1), cell(limit+1, limit+1), cell(-limit-1, -limit-1), cell(-1<<63, 1<<63-1), cell(1<<63-1, -1<<63),
		{Void: true, Z: api.Span{Hi: 1}}, {Void: true, Z: api.Span{Lo: -1}}, {Void: true, Z: api.Span{Lo: 3, Hi: 3}},
	} {
		for _, i := range []int{0, 5} {
			g := full(f, cell(2, 3))
			g.Cells[i] = c
			list = append(list, g)
		}
	}
	for _, n := range []int{5, 7, 12} {
		list = append(list, api.Grid{Raster: f, Cells: slices.Repeat([]api.Cell{void}, n)})
	}
	return list
}

// words returns the words of a number that is not negative.
func words(n *big.Int) []uint32 {
	var list []uint32
	for rest := new(big.Int).Set(n); rest.Sign() > 0; rest.Rsh(rest, 32) {
		list = append(list, uint32(rest.Uint64()))
	}
	return list
}

// isNumber reports whether x is the canonical value of an integer.
func isNumber(x api.Rat, n *big.Int) bool {
	return x.Neg == (n.Sign() < 0) && slices.Equal(x.Num, words(new(big.Int).Abs(n))) && len(x.Den) == 0
}

func isZero(x api.Rat) bool {
	return isNumber(x, new(big.Int))
}

// over returns Step^2 times a number.
func over(f api.Raster, n int) *big.Int {
	step := big.NewInt(int64(f.Step))
	return step.Mul(big.NewInt(int64(n)), step.Mul(step, step))
}

// compare is Compare of what has no error.
func compare(t *testing.T, a, b api.Grid) []int {
	t.Helper()
	states, err := model.Compare(a, b)
	if err != api.OK || len(states) != len(a.Cells) {
		t.Fatalf("Compare of %v and %v: %v, error %d", a, b, states, err)
	}
	return states
}

// amount is Amount of what has no error.
func amount(t *testing.T, a, b api.Grid, nodes []int) (lo, hi api.Rat) {
	t.Helper()
	lo, hi, err := model.Amount(a, b, nodes)
	if err != api.OK {
		t.Fatalf("Amount of %v and %v at %v: error %d", a, b, nodes, err)
	}
	return lo, hi
}

// plainGroups gives each node of a kind the least index of those that it is connected with, step by step, and collects the nodes with one index. Nodes of the kind 0 are in no group.
func plainGroups(f api.Raster, kind []int) [][]int {
	least := make([]int, len(kind))
	for i := range least {
		least[i] = i
	}
	for again := true; again; {
		again = false
		for i := range kind {
			for _, j := range []int{i - 1, i + 1, i - f.NX, i + f.NX} {
				if j >= 0 && j < len(kind) && areNeighbours(f, i, j) && kind[i] == kind[j] && least[j] < least[i] {
					least[i], again = least[j], true
				}
			}
		}
	}
	var groups [][]int
	for first := range kind {
		var group []int
		for i := range kind {
			if kind[i] != 0 && least[i] == first {
				group = append(group, i)
			}
		}
		if len(group) > 0 {
			groups = append(groups, group)
		}
	}
	return groups
}

func areNeighbours(f api.Raster, i, j int) bool {
	columns, rows := columnOf(f, i)-columnOf(f, j), rowOf(f, i)-rowOf(f, j)
	return columns*columns+rows*rows == 1
}

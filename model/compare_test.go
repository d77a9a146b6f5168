package model_test

import (
	"math/rand"
	"slices"
	"testing"

	"lidar/api"
	"lidar/model"
)

func common(t *testing.T, a, b api.Grid) api.Grid {
	t.Helper()
	g, err := model.Common(a, b)
	if err != api.OK || !model.Valid(g) || g.Raster != a.Raster {
		t.Fatalf("Common of %v and %v: %v, error %d", a, b, g, err)
	}
	return g
}

func consistent(t *testing.T, a, b api.Grid) bool {
	t.Helper()
	is, err := model.Consistent(a, b)
	if err != api.OK {
		t.Fatalf("Consistent of %v and %v: error %d", a, b, err)
	}
	return is
}

// P9.6: cells that touch, overlap, contain each other, are apart, and are void.
func TestCells(t *testing.T) {
	for _, c := range []struct {
		a, b   api.Cell
		state  int
		common api.Cell
	}{
		{cell(1, 3), cell(3, 5), api.Same, cell(3, 3)},
		{cell(1, 3), cell(4, 5), api.Up, void},
		{cell(3, 5), cell(1, 3), api.Same, cell(3, 3)},
		{cell(4, 5), cell(1, 3), api.Down, void},
		{cell(1, 9), cell(3, 5), api.Same, cell(3, 5)},
		{cell(3, 5), cell(1, 9), api.Same, cell(3, 5)},
		{cell(1, 4), cell(3, 9), api.Same, cell(3, 4)},
		{cell(0, 0), cell(0, 0), api.Same, cell(0, 0)},
		{cell(0, 0), cell(1, 1), api.Up, void},
		{cell(0, 0), cell(-1, -1), api.Down, void},
		{cell(-limit, -limit), cell(limit, limit), api.Up, void},
		{cell(-limit, limit), cell(limit, limit), api.Same, cell(limit, limit)},
		{void, cell(4, 5), api.Unknown, cell(4, 5)},
		{cell(-2, 3), void, api.Unknown, cell(-2, 3)},
		{void, void, api.Unknown, void},
	} {
		a, b := row(c.a), row(c.b)
		if got := compare(t, a, b); got[0] != c.state {
			t.Errorf("Compare of %v and %v: %d, not %d", c.a, c.b, got[0], c.state)
		}
		if got := common(t, a, b); got.Cells[0] != c.common {
			t.Errorf("Common of %v and %v: %v, not %v", c.a, c.b, got.Cells[0], c.common)
		}
		if got := consistent(t, a, b); got != (c.state == api.Same || c.state == api.Unknown) {
			t.Errorf("Consistent of %v and %v: %t", c.a, c.b, got)
		}
	}
}

// P9.6, P9.11: each node by itself, and both ways.
func TestCompare(t *testing.T) {
	r := rand.New(rand.NewSource(41))
	count := map[int]int{}
	for range 500 {
		a, b := randomPair(r)
		states, back := compare(t, a, b), compare(t, b, a)
		g, other := common(t, a, b), common(t, b, a)
		changed := false
		for i, state := range states {
			one, two := row(a.Cells[i]), row(b.Cells[i])
			if want := compare(t, one, two); state != want[0] {
				t.Fatalf("node %d of %v and %v is %d, not %d", i, a, b, state, want[0])
			}
			if want := common(t, one, two); g.Cells[i] != want.Cells[0] {
				t.Fatalf("Common of %v and %v at the node %d: %v, not %v", a, b, i, g.Cells[i], want.Cells[0])
			}
			exchanged := state
			if state == api.Up || state == api.Down {
				exchanged, changed = -state, true
			}
			if back[i] != exchanged {
				t.Fatalf("node %d of %v and %v is %d, and %d the other way", i, a, b, state, back[i])
			}
			count[state]++
		}
		if !sameGrid(g, other) {
			t.Fatalf("Common of %v and %v: %v, and %v the other way", a, b, g, other)
		}
		if consistent(t, a, b) == changed {
			t.Fatalf("Consistent of %v and %v: %t", a, b, !changed)
		}
	}
	for _, state := range []int{api.Same, api.Up, api.Down, api.Unknown} {
		if count[state] < 500 {
			t.Errorf("only %d nodes are in the state %d", count[state], state)
		}
	}
}

// around returns a grid in whose cells heights lie.
func around(r *rand.Rand, f api.Raster, heights []int) api.Grid {
	g := full(f, void)
	for i, h := range heights {
		if r.Intn(4) > 0 {
			g.Cells[i] = cell(max(-limit, h-r.Intn(3)), min(limit, h+r.Intn(3)))
		}
	}
	return g
}

func randomHeights(r *rand.Rand, f api.Raster) []int {
	heights := make([]int, f.NX*f.NY)
	base := []int{0, limit, -limit}[r.Intn(3)]
	for i := range heights {
		heights[i] = max(-limit, min(base+r.Intn(9)-4, limit))
	}
	return heights
}

// P9.10: grids of one surface are consistent, and it lies within what they have in common.
func TestOneSurface(t *testing.T) {
	r := rand.New(rand.NewSource(42))
	for range 500 {
		f := randomRaster(r)
		heights := randomHeights(r, f)
		a, b := around(r, f, heights), around(r, f, heights)
		if !consistent(t, a, b) || len(regions(t, a, b, 1)) > 0 {
			t.Fatalf("%v and %v have the heights %v, but are not consistent", a, b, heights)
		}
		for i, c := range common(t, a, b).Cells {
			if c.Void != (a.Cells[i].Void && b.Cells[i].Void) || !c.Void && (heights[i] < c.Z.Lo || heights[i] > c.Z.Hi) {
				t.Fatalf("the height %d does not lie within %v, node %d of %v and %v", heights[i], c, i, a, b)
			}
		}
	}
}

// P9.10: what is reported of two surfaces is true.
func TestTwoSurfaces(t *testing.T) {
	r := rand.New(rand.NewSource(43))
	for range 500 {
		f := randomRaster(r)
		before, after := randomHeights(r, f), randomHeights(r, f)
		a, b := around(r, f, before), around(r, f, after)
		var nodes []int
		rise := 0
		for i, state := range compare(t, a, b) {
			if state == api.Up && after[i] <= before[i] || state == api.Down && after[i] >= before[i] {
				t.Fatalf("node %d of %v and %v is in the state %d, from %d to %d", i, a, b, state, before[i], after[i])
			}
			if state != api.Unknown && r.Intn(3) > 0 {
				nodes = append(nodes, i)
				rise += after[i] - before[i]
			}
		}
		r.Shuffle(len(nodes), func(i, j int) { nodes[i], nodes[j] = nodes[j], nodes[i] })
		lo, hi := amount(t, a, b, nodes)
		if change := over(f, rise); value(t, lo).Cmp(change) > 0 || value(t, hi).Cmp(change) < 0 {
			t.Fatalf("the change %v does not lie between %v and %v", change, lo, hi)
		}
	}
}

// P9.6: a grid and itself.
func TestCompareWithItself(t *testing.T) {
	r := rand.New(rand.NewSource(44))
	for range 100 {
		g := randomGrid(r, randomRaster(r))
		for i, state := range compare(t, g, g) {
			if want := map[bool]int{true: api.Unknown, false: api.Same}[g.Cells[i].Void]; state != want {
				t.Errorf("node %d of %v is %d", i, g, state)
			}
		}
		if !consistent(t, g, g) || !slices.Equal(common(t, g, g).Cells, g.Cells) {
			t.Errorf("%v is not consistent with itself", g)
		}
	}
}

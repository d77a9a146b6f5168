package model_test

import (
	"math/rand"
	"slices"
	"testing"

	"lidar/api"
	"lidar/model"
)

func voids(t *testing.T, g api.Grid) []api.Hole {
	t.Helper()
	holes, err := model.Voids(g)
	if err != api.OK {
		t.Fatalf("Voids of %v: error %d", g, err)
	}
	return holes
}

func regions(t *testing.T, a, b api.Grid, few int) []api.Region {
	t.Helper()
	list, err := model.Regions(a, b, few)
	if err != api.OK {
		t.Fatalf("Regions of %v and %v with %d: error %d", a, b, few, err)
	}
	return list
}

func sameHoles(a, b []api.Hole) bool {
	return slices.EqualFunc(a, b, func(h, k api.Hole) bool {
		return h.Name == k.Name && h.Edge == k.Edge && slices.Equal(h.Nodes, k.Nodes)
	})
}

// plainVoids names the groups of void nodes.
func plainVoids(g api.Grid) []api.Hole {
	kind := make([]int, len(g.Cells))
	for i, c := range g.Cells {
		if c.Void {
			kind[i] = 1
		}
	}
	var holes []api.Hole
	for k, group := range plainGroups(g.Raster, kind) {
		h := api.Hole{Name: k + 1, Nodes: group}
		for _, i := range group {
			x, y := columnOf(g.Raster, i), rowOf(g.Raster, i)
			h.Edge = h.Edge || x == 0 || y == 0 || x+1 == g.Raster.NX || y+1 == g.Raster.NY
		}
		holes = append(holes, h)
	}
	return holes
}

// P9.4
func TestVoids(t *testing.T) {
	r := rand.New(rand.NewSource(21))
	for range 500 {
		g := randomGrid(r, randomRaster(r))
		if got, want := voids(t, g), plainVoids(g); !sameHoles(got, want) {
			t.Fatalf("Voids of %v: %v, not %v", g, got, want)
		}
	}
}

// P9.4: rows are not connected at their ends, corners do not connect, and a group may wind back.
func TestVoidsOfDrawings(t *testing.T) {
	for _, c := range []struct {
		g    api.Grid
		want []api.Hole
	}{
		{row(void, cell(0, 0), void), []api.Hole{{Name: 1, Nodes: []int{0}, Edge: true}, {Name: 2, Nodes: []int{2}, Edge: true}}},
		{row(cell(0, 0), cell(1, 2)), nil},
		{drawn("11.", ".11"), []api.Hole{{Name: 1, Nodes: []int{2}, Edge: true}, {Name: 2, Nodes: []int{3}, Edge: true}}},
		{drawn("111", "1.1", "111"), []api.Hole{{Name: 1, Nodes: []int{4}}}},
		{drawn("1111", "1..1", "1.11", "1111"), []api.Hole{{Name: 1, Nodes: []int{5, 6, 9}}}},
		{drawn("1111", "1.11", "11.1", "1111"), []api.Hole{{Name: 1, Nodes: []int{5}}, {Name: 2, Nodes: []int{10}}}},
		{drawn("11111", "1.1.1", "1...1", "11111"), []api.Hole{{Name: 1, Nodes: []int{6, 8, 11, 12, 13}}}},
		{drawn("111", "1.1", "1.1"), []api.Hole{{Name: 1, Nodes: []int{4, 7}, Edge: true}}},
		{drawn("1.1", "1.1", "111"), []api.Hole{{Name: 1, Nodes: []int{1, 4}, Edge: true}}},
		{drawn("1111", "111.", "1111"), []api.Hole{{Name: 1, Nodes: []int{7}, Edge: true}}},
		{drawn("1111", ".111", "1111"), []api.Hole{{Name: 1, Nodes: []int{4}, Edge: true}}},
		{drawn("1", ".", "1"), []api.Hole{{Name: 1, Nodes: []int{1}, Edge: true}}},
	} {
		if got := voids(t, c.g); !sameHoles(got, c.want) {
			t.Errorf("Voids of %v: %v, not %v", c.g, got, c.want)
		}
	}
}

// spiral is a large grid in which one group, that of the nodes without a 1, winds through everything.
func spiral() api.Grid {
	g := full(api.Raster{Step: 1, NX: 64, NY: 64}, void)
	for y := 1; y < 64; y += 2 {
		for x := range 63 {
			g.Cells[64*y+x+y/2%2] = cell(1, 1)
		}
	}
	return g
}

// R1, P9.4, P9.7: groups that are as long, and as many, as possible.
func TestLargeGroups(t *testing.T) {
	g := spiral()
	if holes := voids(t, g); len(holes) != 1 || len(holes[0].Nodes) != 32*65 || !sameHoles(holes, plainVoids(g)) {
		t.Errorf("Voids of the spiral: %v", holes)
	}
	a, b := full(g.Raster, cell(1, 1)), copyOf(g)
	for i, c := range b.Cells {
		if c.Void {
			b.Cells[i] = cell(2, 2)
		}
	}
	if list := regions(t, a, b, 32*65); len(list) != 1 || len(list[0].Nodes) != 32*65 {
		t.Errorf("Regions of the spiral: %v", list)
	}
	for i := range b.Cells {
		b.Cells[i] = cell(2*((i+i/64)%2), 2*((i+i/64)%2))
	}
	list := regions(t, a, b, 1)
	if len(list) != 4096 {
		t.Fatalf("Regions of the board: %v", list)
	}
	for i, region := range list {
		if !slices.Equal(region.Nodes, []int{i}) || region.State != 2*((i+i/64)%2)-1 {
			t.Errorf("region %d of the board is %v", i, region)
		}
	}
}

// P9.7, P9.14
func TestRegions(t *testing.T) {
	r := rand.New(rand.NewSource(22))
	found := 0
	for range 500 {
		a, b := randomPair(r)
		states := compare(t, a, b)
		kind := make([]int, len(states))
		for i, s := range states {
			if s == api.Up || s == api.Down {
				kind[i] = s
			}
		}
		groups := plainGroups(a.Raster, kind)
		for _, few := range []int{1, 2, 3, 10, 5000, 1<<63 - 1} {
			var want [][]int
			for _, group := range groups {
				if len(group) >= few {
					want = append(want, group)
				}
			}
			list := regions(t, a, b, few)
			if len(list) != len(want) {
				t.Fatalf("Regions of %v and %v with %d: %v, not %v", a, b, few, list, want)
			}
			for k, region := range list {
				lo, hi := amount(t, a, b, want[k])
				if !slices.Equal(region.Nodes, want[k]) || region.State != kind[want[k][0]] || !sameRat(region.Lo, lo) || !sameRat(region.Hi, hi) {
					t.Fatalf("Regions of %v and %v with %d: %v, not %v", a, b, few, region, want[k])
				}
				found++
			}
		}
	}
	if found < 1000 {
		t.Errorf("only %d regions were found", found)
	}
}

func sameRat(x, y api.Rat) bool {
	return x.Neg == y.Neg && slices.Equal(x.Num, y.Num) && slices.Equal(x.Den, y.Den)
}

// P9.7: nodes that are up and down are neighbours, but in different regions, in the order of their first nodes.
func TestRegionsOfDrawings(t *testing.T) {
	a := drawn("5555", "5555", "5.55")
	b := drawn("3399", "5399", "339.")
	list := regions(t, a, b, 1)
	want := []api.Region{
		{State: api.Down, Nodes: []int{0, 1, 5}}, {State: api.Up, Nodes: []int{2, 3, 6, 7, 10}}, {State: api.Down, Nodes: []int{8}},
	}
	if len(list) != len(want) {
		t.Fatalf("Regions: %v, not %v", list, want)
	}
	for k, w := range want {
		change := 4
		if w.State == api.Down {
			change = -2
		}
		volume := over(a.Raster, change*len(w.Nodes))
		if got := list[k]; got.State != w.State || !slices.Equal(got.Nodes, w.Nodes) || !isNumber(got.Lo, volume) || !isNumber(got.Hi, volume) {
			t.Errorf("region %d is %v, not %v", k, got, w)
		}
	}
	if list := regions(t, a, b, 4); len(list) != 1 || list[0].State != api.Up {
		t.Errorf("Regions with 4: %v", list)
	}
	if list := regions(t, a, a, 1); len(list) != 0 {
		t.Errorf("Regions of one grid: %v", list)
	}
}

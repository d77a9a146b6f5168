package model

import (
	"cmp"
	"slices"

	"lidar/api"
)

// Voids returns the groups of void nodes, with names.
func Voids(g api.Grid) ([]api.Hole, api.Errno) {
	if !Valid(g) {
		return nil, api.ErrGrid
	}
	var holes []api.Hole
	for i, group := range groups(g.Raster, func(i int) bool { return g.Cells[i].Void }) {
		edge := slices.ContainsFunc(group, func(i int) bool { return isEdge(g.Raster, i) })
		holes = append(holes, api.Hole{Name: i + 1, Nodes: group, Edge: edge})
	}
	return holes, api.OK
}

// Regions returns the groups of at least few nodes at which b is higher than a, and of those at which it is lower.
func Regions(a, b api.Grid, few int) ([]api.Region, api.Errno) {
	states, err := Compare(a, b)
	if err != api.OK {
		return nil, err
	}
	if few < 1 {
		return nil, api.ErrArg
	}
	var regions []api.Region
	for _, state := range [2]int{api.Up, api.Down} {
		for _, group := range groups(a.Raster, func(i int) bool { return states[i] == state }) {
			if len(group) >= few {
				lo, hi := amount(a, b, group)
				regions = append(regions, api.Region{State: state, Nodes: group, Lo: lo, Hi: hi})
			}
		}
	}
	slices.SortFunc(regions, func(r, s api.Region) int { return cmp.Compare(r.Nodes[0], s.Nodes[0]) })
	return regions, api.OK
}

// groups returns the groups of the nodes that belong to one, in the order of their first nodes.
func groups(f api.Raster, belongs func(i int) bool) [][]int {
	var list [][]int
	taken := make([]bool, size(f))
	mayTake := func(i int) bool { return !taken[i] && belongs(i) }
	for first := range taken {
		if !mayTake(first) {
			continue
		}
		taken[first] = true
		group := []int{first}
		for k := 0; k < len(group); k++ { // the group grows on the way
			for _, i := range neighbours(f, group[k]) {
				if isNode(f, i) && mayTake(i) {
					taken[i] = true
					group = append(group, i)
				}
			}
		}
		slices.Sort(group)
		list = append(list, group)
	}
	return list
}

// neighbours returns the neighbours of node i, and numbers that are no indexes of nodes where there are none.
func neighbours(f api.Raster, i int) [4]int {
	list := [4]int{i - f.NX, i + f.NX, -1, -1}
	if i%f.NX > 0 {
		list[2] = i - 1
	}
	if i%f.NX < f.NX-1 {
		list[3] = i + 1
	}
	return list
}

// isEdge reports whether node i is in the first or last row or column.
func isEdge(f api.Raster, i int) bool {
	column, row := i%f.NX, i/f.NX
	return column == 0 || row == 0 || column == f.NX-1 || row == f.NY-1
}

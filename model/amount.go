package model

import (
	"lidar/api"
	"lidar/exact"
)

// Amount returns bounds on the change of the volume at nodes.
func Amount(a, b api.Grid, nodes []int) (lo, hi api.Rat, err api.Errno) {
	if err := checkBoth(a, b); err != api.OK {
		return api.Rat{}, api.Rat{}, err
	}
	if err := checkNodes(a, b, nodes); err != api.OK {
		return api.Rat{}, api.Rat{}, err
	}
	lo, hi = amount(a, b, nodes)
	return lo, hi, api.OK
}

// checkNodes returns the first error of a list of nodes.
func checkNodes(a, b api.Grid, list []int) api.Errno {
	for _, i := range list {
		if !isNode(a.Raster, i) {
			return api.ErrNode
		}
	}
	seen := make([]bool, size(a.Raster))
	for _, i := range list {
		if seen[i] || a.Cells[i].Void || b.Cells[i].Void {
			return api.ErrArg
		}
		seen[i] = true
	}
	return api.OK
}

// amount is Amount for what is valid.
func amount(a, b api.Grid, nodes []int) (lo, hi api.Rat) {
	var sum api.Span
	for _, i := range nodes {
		sum = withRise(sum, b.Cells[i].Z, a.Cells[i].Z)
	}
	return volumes(a.Raster, sum)
}

// Cut returns bounds on the volume between the heights and the height base, at the nodes that are not void.
func Cut(g api.Grid, base int) (lo, hi api.Rat, err api.Errno) {
	if !Valid(g) {
		return api.Rat{}, api.Rat{}, api.ErrGrid
	}
	if !isCoordinate(base) {
		return api.Rat{}, api.Rat{}, api.ErrArg
	}
	var sum api.Span
	for _, c := range g.Cells {
		if !c.Void {
			sum = withRise(sum, c.Z, api.Span{Lo: base, Hi: base})
		}
	}
	lo, hi = volumes(g.Raster, sum)
	return lo, hi, api.OK
}

// withRise returns a sum with the height of z over base added: that of all nodes is far below MaxNum.
func withRise(sum, z, base api.Span) api.Span {
	rise, _ := exact.Minus(z, base)
	sum, _ = exact.Plus(sum, rise)
	return sum
}

// volumes returns the volumes for the ends of a sum of heights, which may not fit into an int.
func volumes(f api.Raster, sum api.Span) (lo, hi api.Rat) {
	square := exact.FromInt(f.Step * f.Step)
	lo, _ = exact.Mul(square, exact.FromInt(sum.Lo))
	hi, _ = exact.Mul(square, exact.FromInt(sum.Hi))
	return lo, hi
}

package model

import (
	"slices"

	"lidar/api"
	"lidar/exact"
)

// Compare returns the state of each node: how the heights in b differ from those in a.
func Compare(a, b api.Grid) ([]int, api.Errno) {
	if err := checkBoth(a, b); err != api.OK {
		return nil, err
	}
	states := make([]int, len(a.Cells))
	for i := range states {
		states[i] = state(a.Cells[i], b.Cells[i])
	}
	return states, api.OK
}

// Consistent reports whether no node is higher in one grid than in the other one.
func Consistent(a, b api.Grid) (bool, api.Errno) {
	states, err := Compare(a, b)
	if err != api.OK {
		return false, err
	}
	return !slices.Contains(states, api.Up) && !slices.Contains(states, api.Down), api.OK
}

// Common returns what both grids say where they do not contradict each other.
func Common(a, b api.Grid) (api.Grid, api.Errno) {
	if err := checkBoth(a, b); err != api.OK {
		return api.Grid{}, err
	}
	return gridOf(a.Raster, func(column, row int) api.Cell {
		i := index(a.Raster, column, row)
		return merged(a.Cells[i], b.Cells[i], meet)
	}), api.OK
}

// checkBoth returns the first error of two grids that are to be compared.
func checkBoth(a, b api.Grid) api.Errno {
	switch {
	case !Valid(a) || !Valid(b):
		return api.ErrGrid
	case a.Raster != b.Raster:
		return api.ErrRaster
	}
	return api.OK
}

func state(a, b api.Cell) int {
	switch {
	case a.Void || b.Void:
		return api.Unknown
	case b.Z.Lo > a.Z.Hi:
		return api.Up
	case b.Z.Hi < a.Z.Lo:
		return api.Down
	}
	return api.Same
}

// meet is exact.Meet of the spans of cells, void if there is none.
func meet(y, z api.Span) api.Cell {
	common, ok, _ := exact.Meet(y, z)
	return api.Cell{Void: !ok, Z: common}
}

package model

import (
	"lidar/api"
	"lidar/exact"
)

// Thin returns the grid of the nodes whose columns and rows are multiples of k.
func Thin(g api.Grid, k int) (api.Grid, api.Errno) {
	return level(g, k, func(column, row int) api.Cell {
		return g.Cells[index(g.Raster, column, row)]
	})
}

// Coarse returns the grid with the raster of Thin whose cells cover k columns and k rows of cells.
func Coarse(g api.Grid, k int) (api.Grid, api.Errno) {
	f := g.Raster
	return level(g, k, func(column, row int) api.Cell {
		all := api.Cell{Void: true}
		for y := range min(k, f.NY-row) {
			for x := range min(k, f.NX-column) {
				all = merged(all, g.Cells[index(f, column+x, row+y)], hull)
			}
		}
		return all
	})
}

// level returns the grid with every k-th column and row, whose cells are what cell returns for these columns and rows of g.
func level(g api.Grid, k int, cell func(column, row int) api.Cell) (api.Grid, api.Errno) {
	if !Valid(g) {
		return api.Grid{}, api.ErrGrid
	}
	if !within(1, maxStep/g.Raster.Step, k) {
		return api.Grid{}, api.ErrArg
	}
	f := g.Raster
	f.Step *= k
	f.NX = (f.NX + k - 1) / k
	f.NY = (f.NY + k - 1) / k
	return gridOf(f, func(column, row int) api.Cell { return cell(column*k, row*k) }), api.OK
}

// hull is exact.Hull of the spans of cells.
func hull(y, z api.Span) api.Cell {
	all, _ := exact.Hull(y, z)
	return api.Cell{Z: all}
}

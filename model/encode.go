package model

import (
	"slices"

	"lidar/api"
	"lidar/code"
)

// Encode returns the encoding of a grid.
func Encode(g api.Grid) ([]byte, api.Errno) {
	if !Valid(g) {
		return nil, api.ErrGrid
	}
	b := code.AppendSigned(nil, g.Raster.X0, g.Raster.Y0)
	b = code.Append(b, g.Raster.Step, g.Raster.NX, g.Raster.NY)
	return code.Seal(appendCells(b, g.Cells)), api.OK
}

func appendCells(b []byte, cells []api.Cell) []byte {
	lo := 0
	for len(cells) > 0 {
		if n := voidsInFront(cells); n > 0 {
			b = code.Append(b, 0, n)
			cells = cells[n:]
			continue
		}
		z := cells[0].Z
		b = code.Append(b, 1+z.Hi-z.Lo)
		b = code.AppendSigned(b, z.Lo-lo)
		lo = z.Lo
		cells = cells[1:]
	}
	return b
}

// voidsInFront returns how many void cells there are in front of the first other one.
func voidsInFront(cells []api.Cell) int {
	n := slices.IndexFunc(cells, func(c api.Cell) bool { return !c.Void })
	if n < 0 {
		return len(cells)
	}
	return n
}

// Decode returns the grid whose encoding is b.
func Decode(b []byte) (api.Grid, api.Errno) {
	body, right := code.Unseal(b)
	if !right {
		return api.Grid{}, api.ErrForm
	}
	r := code.NewReader(body)
	f := api.Raster{X0: r.Signed(), Y0: r.Signed(), Step: r.Number(), NX: r.Number(), NY: r.Number()}
	if !ValidRaster(f) {
		return api.Grid{}, api.ErrForm
	}
	g := api.Grid{Raster: f, Cells: readCells(r, size(f))}
	if !r.Ended() || !Valid(g) {
		return api.Grid{}, api.ErrForm
	}
	return g, api.OK
}

// readCells reads n cells, which need not be valid; fewer, if the numbers of void cells are not those of an encoding.
func readCells(r *code.Reader, n int) []api.Cell {
	var cells []api.Cell
	lo, wasVoid := 0, false
	for len(cells) < n {
		width := r.Number()
		if width > 0 {
			lo += r.Signed()
			cells = append(cells, api.Cell{Z: api.Span{Lo: lo, Hi: lo + width - 1}})
			wasVoid = false
			continue
		}
		voids := r.Number()
		if wasVoid || !within(1, n-len(cells), voids) {
			break // bytes that cannot be read are zeros, so they end here too
		}
		cells = append(cells, slices.Repeat([]api.Cell{{Void: true}}, voids)...)
		wasVoid = true
	}
	return cells
}

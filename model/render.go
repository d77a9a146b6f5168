package model

import (
	"slices"

	"lidar/api"
	"lidar/exact"
	"lidar/mesh"
)

const maxLimit = 1 << 30

// Render returns the grid of a mesh, void beyond it and in triangles with a side that is longer than limit.
func Render(m api.Mesh, f api.Raster, limit int) (api.Grid, api.Errno) {
	if err := mesh.Check(m); err != api.OK {
		return api.Grid{}, err
	}
	if !ValidRaster(f) {
		return api.Grid{}, api.ErrGrid
	}
	if !within(0, maxLimit, limit) {
		return api.Grid{}, api.ErrArg
	}
	list := trianglesOf(m)
	return gridOf(f, func(column, row int) api.Cell {
		at := place(f, column, row)
		i := slices.IndexFunc(list, func(t triangle) bool { return t.contains(at) })
		if i < 0 || list[i].isLong(limit) {
			return api.Cell{Void: true}
		}
		return api.Cell{Z: list[i].bounds(at)}
	}), api.OK
}

// triangle has its corners in counterclockwise order.
//
// It stands for its mesh here, because mesh.Find and mesh.Bounds check the whole mesh each time, and there may be thousands of nodes.
type triangle [3]api.Vertex

func trianglesOf(m api.Mesh) []triangle {
	list := make([]triangle, 0, len(m.T))
	for _, t := range m.T {
		list = append(list, triangle{m.V[t[0]], m.V[t[1]], m.V[t[2]]})
	}
	return list
}

func placeOf(v api.Vertex) api.XY {
	return api.XY{X: v.X, Y: v.Y}
}

func (t triangle) contains(at api.XY) bool {
	for i, v := range t {
		if turn, _ := exact.Turn(placeOf(v), placeOf(t[(i+1)%3]), at); turn < 0 {
			return false
		}
	}
	return true
}

func (t triangle) isLong(limit int) bool {
	for i, v := range t {
		w := t[(i+1)%3]
		x, y := w.X-v.X, w.Y-v.Y
		if x*x+y*y > limit*limit {
			return true
		}
	}
	return false
}

// bounds returns mesh.Bounds at a place in the triangle: what surrounds the triangle plays no part in it, so a mesh of it alone has the same heights.
func (t triangle) bounds(at api.XY) api.Span {
	alone, _ := mesh.Build(t[:], nil)
	z, _ := mesh.Bounds(alone, at)
	return z
}

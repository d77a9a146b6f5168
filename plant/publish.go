package plant

import (
	"lidar/api"
	"lidar/mesh"
	"lidar/model"
	"lidar/tile"
)

// Publish makes the newest version equal to the survey of all data, and returns its number.
func (p *Plant) Publish() (int, api.Errno) {
	if p.none() {
		return 0, api.ErrArg
	}
	points, err := Survey(p.Strips(), p.matches, p.edits, p.config)
	if err != api.OK {
		return 0, err
	}
	old, _ := p.archive.Points(p.archive.Version())
	add, remove, _ := Difference(old, points) // no error: both are points of layers below
	if len(add)+len(remove) == 0 {
		return p.archive.Version(), api.OK
	}
	if p.closed {
		return 0, api.ErrDead
	}
	return p.archive.Commit(add, remove)
}

// Reopen opens the archive anew.
func (p *Plant) Reopen() api.Errno {
	if p.none() {
		return api.ErrArg
	}
	archive, err := tile.Open(p.disk, p.config.Cap)
	p.closed = err != api.OK
	if !p.closed {
		p.archive = archive
	}
	return err
}

// Version returns the newest version.
func (p *Plant) Version() int {
	if p.none() {
		return 0
	}
	return p.archive.Version()
}

// Points returns the points of a version, in ascending order of their Ids.
func (p *Plant) Points(version int) ([]api.Point, api.Errno) {
	if p.none() {
		return nil, api.ErrArg
	}
	return p.archive.Points(version)
}

// Order returns the delivery of what an order asks for.
func (p *Plant) Order(version int, o api.Order) ([]byte, api.Errno) {
	if p.none() {
		return nil, api.ErrArg
	}
	if !ValidOrder(o) {
		return nil, api.ErrOrder
	}
	tiles, err := p.archive.Tiles(version)
	if err != api.OK {
		return nil, err
	}
	points, _ := Select(tiles, o) // no error: both are valid
	return Ship(points)
}

// Profile returns the stops along a segment of the relief of a version.
func (p *Plant) Profile(version int, from, to api.XY) ([]api.Stop, api.Errno) {
	points, err := p.Points(version)
	if err != api.OK {
		return nil, err
	}
	return mesh.Profile(p.relief(points), from, to)
}

// relief is Relief of points of a version, which has no error.
func (p *Plant) relief(points []api.Point) api.Mesh {
	m, _ := Relief(points, p.breaks)
	return m
}

// Changes returns the keys of the tiles that two versions do not have in common.
func (p *Plant) Changes(from, to int) ([]api.Key, api.Errno) {
	if p.none() {
		return nil, api.ErrArg
	}
	return p.archive.Changes(from, to)
}

// Change returns the regions in which the relief of two versions differs.
func (p *Plant) Change(from, to int, f api.Raster, limit, few int) ([]api.Region, api.Errno) {
	var surveys [2][]api.Point
	for i, version := range [2]int{from, to} {
		points, err := p.Points(version)
		if err != api.OK {
			return nil, err
		}
		surveys[i] = points
	}
	var grids [2]api.Grid
	for i, points := range surveys {
		grid, err := model.Render(p.relief(points), f, limit)
		if err != api.OK {
			return nil, err
		}
		grids[i] = grid
	}
	return model.Regions(grids[0], grids[1], few)
}

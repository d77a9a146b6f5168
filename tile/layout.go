package tile

import (
	"maps"
	"slices"

	"lidar/api"
)

// Layout returns the tiles to which points belong, in the order of their keys.
func Layout(points []api.Point, c int) ([]api.Tile, api.Errno) {
	if !validPoints(points) {
		return nil, api.ErrPoint
	}
	if !validCapacity(c) {
		return nil, api.ErrArg
	}
	return layout(points, c), api.OK
}

// layout is Layout for what is valid. In the order of ranks, each point goes down to the first tile that has room for it: what comes after it does not push it away.
func layout(points []api.Point, c int) []api.Tile {
	held := map[api.Key][]api.Point{}
	for _, p := range slices.SortedFunc(slices.Values(points), byRank) {
		key := cellOf(p, 0)
		for len(held[key]) >= c && key.Level < api.MaxLevel {
			key = cellOf(p, key.Level+1)
		}
		held[key] = append(held[key], p)
	}
	var tiles []api.Tile
	for _, key := range slices.SortedFunc(maps.Keys(held), byKey) {
		slices.SortFunc(held[key], byId)
		tiles = append(tiles, api.Tile{Key: key, Points: held[key]})
	}
	return tiles
}

// Update returns the layout of points after a change, and the keys of the tiles that the change affects.
func Update(points []api.Point, add []api.Point, remove []int, c int) ([]api.Tile, []api.Key, api.Errno) {
	if !validPoints(points) || !validPoints(add) {
		return nil, nil, api.ErrPoint
	}
	if !validCapacity(c) {
		return nil, nil, api.ErrArg
	}
	changedPoints, err := change{add: add, remove: remove}.apply(points)
	if err != api.OK {
		return nil, nil, err
	}
	tiles := layout(changedPoints, c)
	return tiles, changed(layout(points, c), tiles), api.OK
}

// Detail returns the points of all tiles up to a level, in ascending order of their Ids.
func Detail(tiles []api.Tile, level int) ([]api.Point, api.Errno) {
	if !validTiles(tiles) {
		return nil, api.ErrTile
	}
	if !validLevel(level) {
		return nil, api.ErrArg
	}
	var points []api.Point
	for _, t := range tiles {
		if t.Key.Level <= level {
			points = append(points, t.Points...)
		}
	}
	slices.SortFunc(points, byId)
	return points, api.OK
}

// Changed returns the keys of the tiles that two lists do not have in common, in their order.
func Changed(a, b []api.Tile) ([]api.Key, api.Errno) {
	if !validTiles(a) || !validTiles(b) {
		return nil, api.ErrTile
	}
	return changed(a, b), api.OK
}

// changed is Changed for what is valid.
func changed(a, b []api.Tile) []api.Key {
	alone := map[api.Key][]api.Point{}
	for _, t := range a {
		alone[t.Key] = t.Points
	}
	var keys []api.Key
	for _, t := range b {
		// No tile is empty, so one that a does not have differs from the nothing that is found for it.
		if !slices.Equal(alone[t.Key], t.Points) {
			keys = append(keys, t.Key)
		}
		delete(alone, t.Key)
	}
	keys = slices.AppendSeq(keys, maps.Keys(alone))
	slices.SortFunc(keys, byKey)
	return keys
}

// validTiles reports whether tiles are in order, their points are valid and lie in them, and no Id is there twice.
func validTiles(tiles []api.Tile) bool {
	seen := map[int]bool{}
	for i, t := range tiles {
		if !validTile(t) || i > 0 && byKey(tiles[i-1].Key, t.Key) >= 0 {
			return false
		}
		for _, p := range t.Points {
			if seen[p.Id] {
				return false
			}
			seen[p.Id] = true
		}
	}
	return true
}

func validTile(t api.Tile) bool {
	if !validKey(t.Key) || len(t.Points) == 0 || !validPoints(t.Points) || !slices.IsSortedFunc(t.Points, byId) {
		return false
	}
	for _, p := range t.Points {
		if cellOf(p, t.Key.Level) != t.Key {
			return false
		}
	}
	return true
}

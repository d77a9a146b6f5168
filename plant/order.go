package plant

import (
	"slices"

	"lidar/api"
	"lidar/code"
	"lidar/label"
	"lidar/tile"
)

// Select returns the points of tiles that an order asks for, in ascending order of their Ids.
func Select(tiles []api.Tile, o api.Order) ([]api.Point, api.Errno) {
	if !ValidOrder(o) {
		return nil, api.ErrOrder
	}
	points, err := tile.Detail(tiles, o.Level)
	if err != api.OK {
		return nil, err
	}
	return slices.DeleteFunc(points, func(p api.Point) bool { return !isOrdered(o, p) }), api.OK
}

// isOrdered reports whether a valid order asks for a point of a tile up to its level.
func isOrdered(o api.Order, p api.Point) bool {
	if tile.Rank(p.Id)%uint64(o.Every) != 0 || len(o.Classes) > 0 && !slices.Contains(o.Classes, p.Class) {
		return false
	}
	if len(o.Ring) == 0 {
		return true
	}
	in, _ := label.Within(o.Ring, placeOf(p))
	return in
}

func placeOf(p api.Point) api.XY {
	return api.XY{X: p.X, Y: p.Y}
}

// Ship returns points as a delivery.
func Ship(points []api.Point) ([]byte, api.Errno) {
	if !validPoints(points) {
		return nil, api.ErrPoint
	}
	ordered := slices.SortedFunc(slices.Values(points), byId)
	return code.Seal(code.AppendPoints(nil, ordered)), api.OK
}

// Receive returns the points of a delivery, in ascending order of their Ids.
func Receive(b []byte) ([]api.Point, api.Errno) {
	body, right := code.Unseal(b)
	if !right {
		return nil, api.ErrForm
	}
	r := code.NewReader(body)
	points := r.Points()
	// Ids are encoded as what they are greater than those in front of them, so valid ones are in order.
	if !r.Ended() || !validPoints(points) {
		return nil, api.ErrForm
	}
	return points, api.OK
}

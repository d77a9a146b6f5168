package tile

import (
	"lidar/api"
	"lidar/code"
)

// Encode returns the encoding of a tile.
func Encode(t api.Tile) ([]byte, api.Errno) {
	if !validTile(t) {
		return nil, api.ErrTile
	}
	b := code.Append(nil, t.Key.Level, t.Key.X, t.Key.Y, t.Key.Z)
	return code.Seal(code.AppendPoints(b, t.Points)), api.OK
}

// Decode returns the tile whose encoding is b.
func Decode(b []byte) (api.Tile, api.Errno) {
	body, right := code.Unseal(b)
	if !right {
		return api.Tile{}, api.ErrForm
	}
	r := code.NewReader(body)
	key := api.Key{Level: r.Number(), X: r.Number(), Y: r.Number(), Z: r.Number()}
	t := api.Tile{Key: key, Points: r.Points()}
	if !r.Ended() || !validTile(t) {
		return api.Tile{}, api.ErrForm
	}
	return t, api.OK
}

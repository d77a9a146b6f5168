package tile_test

import (
	"testing"

	"lidar/api"
	"lidar/tile"
)

// update is what Update may be given.
type update struct {
	points, add []api.Point
	remove      []int
	c           int
}

// faults are what makes an update wrong, in the order of errors.
var faults = []struct {
	err   api.Errno
	spoil func(u *update)
}{
	{api.ErrPoint, func(u *update) { u.points[7].Class = 256 }},
	{api.ErrPoint, func(u *update) { u.add = append(u.add, classed(point(4000, 0, 0, 0), -1)) }},
	{api.ErrArg, func(u *update) { u.c = 0 }},
	{api.ErrGone, func(u *update) { u.remove = append(u.remove, 3000) }},
	{api.ErrThere, func(u *update) { u.add = append(u.add, u.points[4]) }},
	{api.ErrMany, func(u *update) { u.add = append(u.add, point(2001, 0, 0, 0)) }},
}

// P8.3, P8.10, R2: of several errors the first one applies, and with an error the results are zero. All sets of faults are tried; Commit has all but those of points and c, which it is not given.
func TestOrderOfErrors(t *testing.T) {
	a := open(t, tile.NewDisk(), 4)
	before := commit(t, a, newPlain(4), numbered(api.MaxPoints), nil)
	for set := range 1 << len(faults) {
		u := update{points: numbered(api.MaxPoints), add: []api.Point{point(2000, 0, 0, 0)}, remove: []int{1}, c: 4}
		want := api.OK
		for i := len(faults) - 1; i >= 0; i-- {
			if set>>i&1 == 1 {
				faults[i].spoil(&u)
				want = faults[i].err
			}
		}
		tiles, keys, err := tile.Update(u.points, u.add, u.remove, u.c)
		if err != want || err != api.OK && len(tiles)+len(keys) != 0 {
			t.Errorf("Update with the faults %b: error %d, not %d", set, err, want)
		}
		if want == api.OK || u.c == 0 || u.points[7].Class == 256 {
			continue
		}
		if version, err := a.Commit(u.add, u.remove); err != want || version != 0 {
			t.Errorf("Commit with the faults %b: %d, error %d, not %d", set, version, err, want)
		}
	}
	expectArchive(t, a, before)
}

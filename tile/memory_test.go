package tile_test

import (
	"bytes"
	"math/rand"
	"slices"
	"testing"

	"lidar/api"
	"lidar/tile"
)

// behind returns a list with more in the memory behind it, and all of it.
func behind[T any](list []T, more ...T) (short, all []T) {
	all = append(slices.Clip(list), more...)
	return all[:len(list)], all
}

// R4: arguments stay as they are, and what lies behind their ends is neither read nor written.
func TestArgumentsStay(t *testing.T) {
	r := rand.New(rand.NewSource(14))
	for range 100 {
		list := randomPoints(r, 2+r.Intn(30))
		added, removed := randomChange(r, list, 5)
		points, allPoints := behind(list, point(1, 0, 0, 0), api.Point{Id: -1})
		add, allAdd := behind(added, list[0], api.Point{Id: -1})
		remove, allRemove := behind(removed, -1, -1)
		tiles, allTiles := behind(plainLayout(points, 3), api.Tile{})
		for i := range tiles {
			tiles[i].Points, _ = behind(tiles[i].Points, api.Point{Id: -1})
		}
		code, allCode := behind(sealed(plainBody(tiles[0])), 1, 2, 3)
		isSame := func() func() bool {
			oldPoints, oldAdd, oldRemove, oldCode := slices.Clone(allPoints), slices.Clone(allAdd), slices.Clone(allRemove), slices.Clone(allCode)
			var oldTiles []api.Tile
			for _, tl := range allTiles {
				oldTiles = append(oldTiles, api.Tile{Key: tl.Key, Points: slices.Clone(tl.Points[:cap(tl.Points)])})
			}
			return func() bool {
				for i, tl := range allTiles {
					if tl.Key != oldTiles[i].Key || !slices.Equal(tl.Points[:cap(tl.Points)], oldTiles[i].Points) {
						return false
					}
				}
				return slices.Equal(allPoints, oldPoints) && slices.Equal(allAdd, oldAdd) && slices.Equal(allRemove, oldRemove) && bytes.Equal(allCode, oldCode)
			}
		}()
		a, _ := tile.Open(tile.NewDisk(), 3)
		for name, call := range map[string]func() api.Errno{
			"Layout":  func() api.Errno { _, err := tile.Layout(points, 3); return err },
			"Update":  func() api.Errno { _, _, err := tile.Update(points, add, remove, 3); return err },
			"Detail":  func() api.Errno { _, err := tile.Detail(tiles, 2); return err },
			"Changed": func() api.Errno { _, err := tile.Changed(tiles, tiles[1:]); return err },
			"Encode":  func() api.Errno { _, err := tile.Encode(tiles[0]); return err },
			"Decode":  func() api.Errno { _, err := tile.Decode(code); return err },
			"Commit": func() api.Errno {
				_, first := a.Commit(points, nil)
				_, second := a.Commit(add, remove)
				return max(first, second)
			},
		} {
			if err := call(); err != api.OK || !isSame() {
				t.Fatalf("%s, error %d, has changed an argument", name, err)
			}
		}
	}
}

// R4: results are new memory, and no two parts of one are the same.
func TestResultsAreNew(t *testing.T) {
	points := numbered(9)
	tiles := layout(t, points, 2)
	updated, _, err := tile.Update(points, nil, nil, 2)
	if err != api.OK {
		t.Fatal(err)
	}
	for _, list := range [][]api.Tile{tiles, updated} {
		for i := range list {
			kept := plainLayout(points, 2)[i+1:]
			clear(list[i].Points[:cap(list[i].Points)])
			if !sameTiles(list[i+1:], kept) {
				t.Fatalf("tiles share memory: %v", list)
			}
		}
	}
	tiles = layout(t, points, 2)
	for _, level := range []int{0, 12} {
		all := detail(t, tiles, level)
		clear(all[:cap(all)])
	}
	b, _ := tile.Encode(tiles[0])
	decoded, _ := tile.Decode(b)
	clear(b)
	clear(decoded.Points[:cap(decoded.Points)])
	if !slices.Equal(points, numbered(9)) || !sameTiles(tiles, plainLayout(points, 2)) {
		t.Error("an argument has changed")
	}
}

// R4: an archive keeps copies, and hands on copies.
func TestArchiveMemory(t *testing.T) {
	d := tile.NewDisk()
	a, p := open(t, d, 2), newPlain(2)
	points, remove := numbered(9), []int{4, 2}
	p = commit(t, a, p, points, nil)
	clear(points)
	p.versions[1] = numbered(9)
	p = commit(t, a, p, nil, remove)
	clear(remove)
	for _, version := range a.Versions() {
		got, _ := a.Points(version)
		clear(got[:cap(got)])
		tiles, _ := a.Tiles(version)
		for _, tl := range tiles {
			clear(tl.Points[:cap(tl.Points)])
		}
		list := a.Versions()
		clear(list)
	}
	expectArchive(t, a, p)
	expectTiles(t, a, p)
	p = forget(t, a, p, 1)
	expectArchive(t, open(t, d, 2), p)
}

package tile_test

import (
	"math"
	"math/rand"
	"slices"
	"testing"

	"lidar/api"
	"lidar/tile"
)

// plainArchive are the versions of an archive, from the first one on.
type plainArchive struct {
	capacity, first int
	versions        [][]api.Point // in ascending order of their Ids
}

func newPlain(c int) plainArchive {
	return plainArchive{capacity: c, versions: [][]api.Point{nil}}
}

func (p plainArchive) last() int {
	return p.first + len(p.versions) - 1
}

func (p plainArchive) points() []api.Point {
	return p.versions[len(p.versions)-1]
}

// with returns the archive after a commit.
func (p plainArchive) with(add []api.Point, remove []int) plainArchive {
	p.versions = append(slices.Clip(p.versions), plainUpdate(p.points(), add, remove))
	return p
}

// from returns the archive without the versions below one.
func (p plainArchive) from(below int) plainArchive {
	p.first, p.versions = below, p.versions[below-p.first:]
	return p
}

func (p plainArchive) equals(q plainArchive) bool {
	return p.capacity == q.capacity && p.first == q.first && slices.EqualFunc(p.versions, q.versions, slices.Equal)
}

// stateOf returns what an archive says that it has.
func stateOf(t *testing.T, a *tile.Archive, c int) plainArchive {
	t.Helper()
	list := a.Versions()
	if len(list) == 0 || list[len(list)-1] != a.Version() {
		t.Fatalf("Versions is %v, Version is %d", list, a.Version())
	}
	p := plainArchive{capacity: c, first: list[0]}
	for i, version := range list {
		points, err := a.Points(version)
		if version != list[0]+i || err != api.OK {
			t.Fatalf("Versions is %v, Points returns the error %d", list, err)
		}
		p.versions = append(p.versions, points)
	}
	return p
}

// expectArchive fails if an archive has not the expected versions.
func expectArchive(t *testing.T, a *tile.Archive, want plainArchive) {
	t.Helper()
	if got := stateOf(t, a, want.capacity); !got.equals(want) {
		t.Fatalf("the archive has %v, not %v", got, want)
	}
	for _, version := range []int{want.first - 1, want.last() + 1, -1, math.MinInt, math.MaxInt} {
		points, err := a.Points(version)
		tiles, tilesErr := a.Tiles(version)
		if err != api.ErrVersion || tilesErr != api.ErrVersion || len(points)+len(tiles) != 0 {
			t.Fatalf("version %d has %v, error %d, and %v, error %d", version, points, err, tiles, tilesErr)
		}
	}
}

// expectTiles fails if the tiles of an archive and their changes are not those of its points.
func expectTiles(t *testing.T, a *tile.Archive, want plainArchive) {
	t.Helper()
	for i, points := range want.versions {
		after := plainLayout(points, want.capacity)
		tiles, err := a.Tiles(want.first + i)
		if err != api.OK || !sameTiles(tiles, after) {
			t.Fatalf("version %d has the tiles %v, error %d, not %v", want.first+i, tiles, err, after)
		}
		for k, others := range want.versions {
			keys, err := a.Changes(want.first+k, want.first+i)
			if err != api.OK || !slices.Equal(keys, plainChanged(plainLayout(others, want.capacity), after)) {
				t.Fatalf("Changes from %d to %d returns %v, error %d", want.first+k, want.first+i, keys, err)
			}
		}
	}
	for _, version := range []int{want.first - 1, want.last() + 1} {
		for _, pair := range [][2]int{{version, want.first}, {want.first, version}, {version, version}} {
			if keys, err := a.Changes(pair[0], pair[1]); err != api.ErrVersion || len(keys) != 0 {
				t.Fatalf("Changes of %v returns %v, error %d", pair, keys, err)
			}
		}
	}
}

func open(t *testing.T, d *tile.Disk, c int) *tile.Archive {
	t.Helper()
	a, err := tile.Open(d, c)
	if err != api.OK {
		t.Fatalf("Open with the capacity %d: error %d", c, err)
	}
	return a
}

func commit(t *testing.T, a *tile.Archive, p plainArchive, add []api.Point, remove []int) plainArchive {
	t.Helper()
	version, err := a.Commit(add, remove)
	if err != api.OK || version != p.last()+1 {
		t.Fatalf("Commit of %v, %v to version %d: %d, error %d", add, remove, p.last(), version, err)
	}
	return p.with(add, remove)
}

func forget(t *testing.T, a *tile.Archive, p plainArchive, below int) plainArchive {
	t.Helper()
	if err := a.Forget(below); err != api.OK {
		t.Fatalf("Forget(%d): error %d", below, err)
	}
	return p.from(below)
}

// P8.8: a new disk, also with other capacities as long as nothing was committed.
func TestOpenNewDisk(t *testing.T) {
	d := tile.NewDisk()
	for _, c := range []int{1, 64, 5} {
		expectArchive(t, open(t, d, c), newPlain(c))
		expectTiles(t, open(t, d, c), newPlain(c))
	}
	for _, c := range []int{0, -1, 65, math.MinInt, math.MaxInt} {
		if a, err := tile.Open(d, c); a != nil || err != api.ErrArg {
			t.Errorf("Open with the capacity %d: error %d", c, err)
		}
	}
	d.Crash([2]int{})
	for c, want := range map[int]api.Errno{0: api.ErrArg, 1: api.ErrDown, 65: api.ErrArg} {
		if a, err := tile.Open(d, c); a != nil || err != want {
			t.Errorf("Open of a disk that is down, with the capacity %d: error %d", c, err)
		}
	}
	d.Start()
	a := open(t, d, 7)
	commit(t, a, newPlain(7), nil, nil)
	for _, c := range []int{1, 6, 8, 64} {
		if a, err := tile.Open(d, c); a != nil || err != api.ErrCap {
			t.Errorf("Open with the capacity %d: error %d", c, err)
		}
	}
	if err := a.Forget(1); err != api.OK {
		t.Errorf("Forget: error %d", err)
	}
	if a, err := tile.Open(d, 6); a != nil || err != api.ErrCap {
		t.Errorf("Open with the capacity 6 after Forget: error %d", err)
	}
	if a, err := tile.Open(d, 65); a != nil || err != api.ErrArg {
		t.Errorf("Open with the capacity 65: error %d", err)
	}
}

// P8.8 to P8.11, P8.16, P6: commits, versions that are forgotten, and archives that are opened anew.
func TestArchiveAtRandom(t *testing.T) {
	r := rand.New(rand.NewSource(11))
	for range 150 {
		d, c := tile.NewDisk(), capacities[r.Intn(len(capacities))]
		a, p := open(t, d, c), newPlain(c)
		for range 12 {
			switch r.Intn(8) {
			case 0:
				p = forget(t, a, p, p.first+r.Intn(len(p.versions)))
			case 1:
				d = d.Fork()
				a = open(t, d, c)
			case 2:
				d.Crash([2]int{r.Intn(3), r.Intn(3)})
				d.Start()
				a = open(t, d, c)
			default:
				add, remove := randomChange(r, p.points(), r.Intn(12)+1)
				p = commit(t, a, p, add, remove)
			}
			expectArchive(t, a, p)
			expectArchive(t, open(t, d, c), p)
		}
		expectTiles(t, a, p)
	}
}

// P8.10: the order of errors; with an error nothing changes, and the archive does not die of it.
func TestCommitErrors(t *testing.T) {
	d := tile.NewDisk()
	a, p := open(t, d, 4), newPlain(4)
	full := numbered(api.MaxPoints)
	p = commit(t, a, p, full[1:], nil)
	expect := func(add []api.Point, remove []int, want api.Errno) {
		t.Helper()
		if version, err := a.Commit(add, remove); err != want || version != 0 {
			t.Errorf("Commit of %d points, %d less: %d, error %d, not %d", len(add), len(remove), version, err, want)
		}
		expectArchive(t, a, p)
	}
	for range 2 { // the second time with a disk that is down
		for _, points := range badLists() {
			expect(points, []int{1}, api.ErrPoint)
		}
		expect(full[1:2], []int{1}, api.ErrGone)
		expect(nil, []int{5, 5}, api.ErrGone)
		expect(full[1:3], []int{2}, api.ErrThere)
		expect([]api.Point{full[0], point(0, 0, 0, 0)}, nil, api.ErrMany)
		if err := a.Forget(2); err != api.ErrVersion {
			t.Errorf("Forget of the version 2: error %d", err)
		}
		d.Arm(1)
		d.Sync(0)
	}
	d.Start()
	a = open(t, d, 4)
	p = commit(t, a, p, full[:1], nil)
	expect([]api.Point{point(0, 0, 0, 0)}, nil, api.ErrMany)
	p = commit(t, a, p, full, idsOf(full))
	p = commit(t, a, p, nil, idsOf(full))
	p = commit(t, a, p, nil, nil)
	expectArchive(t, open(t, d, 4), p)
}

// P8.10, P8.11: a disk that is down, and an archive that is dead.
func TestDeadArchives(t *testing.T) {
	acts := []func(a *tile.Archive) api.Errno{
		func(a *tile.Archive) api.Errno {
			version, err := a.Commit(numbered(3)[2:], []int{1})
			return max(err, api.Errno(version))
		},
		func(a *tile.Archive) api.Errno { return a.Forget(1) },
		func(a *tile.Archive) api.Errno { return a.Forget(0) }, // nothing to forget, but the disk is down
	}
	for i := range acts {
		for _, again := range []bool{false, true} {
			d := tile.NewDisk()
			a, p := open(t, d, 4), newPlain(4)
			p = commit(t, a, p, numbered(2), nil)
			d.Arm(1)
			if again {
				d.Crash([2]int{})
			} else if d.Sync(0); !d.Down() {
				t.Fatal("the disk is not down")
			}
			if err := acts[i](a); err != api.ErrDown {
				t.Errorf("call %d of a disk that is down: error %d", i, err)
			}
			if again {
				d.Start()
			}
			if version, err := a.Commit(badPoints(), []int{9}); err != api.ErrDead || version != 0 {
				t.Errorf("Commit of a dead archive: %d, error %d", version, err)
			}
			for _, below := range []int{0, 1, 2, -1} {
				if err := a.Forget(below); err != api.ErrDead {
					t.Errorf("Forget(%d) of a dead archive: error %d", below, err)
				}
			}
			expectArchive(t, a, p)
			expectTiles(t, a, p)
		}
	}
}

// P8.11: which versions can be forgotten.
func TestForget(t *testing.T) {
	d := tile.NewDisk()
	a, p := open(t, d, 2), newPlain(2)
	for id := range 6 {
		p = commit(t, a, p, numbered(7)[id:id+1], nil)
	}
	for _, below := range []int{0, 0, 1, 1, 4, 4, 6, 6} {
		p = forget(t, a, p, below)
		expectArchive(t, a, p)
		expectArchive(t, open(t, d, 2), p)
		for _, none := range []int{below - 1, 7, -1, math.MinInt, math.MaxInt} {
			if err := a.Forget(none); err != api.ErrVersion {
				t.Errorf("Forget(%d): error %d", none, err)
			}
		}
	}
	p = commit(t, a, p, numbered(7)[6:], []int{1})
	expectArchive(t, a, p)
	expectTiles(t, open(t, d, 2), p)
}

// P8.11: which methods make operations of the disk.
func TestOperationsOfCalls(t *testing.T) {
	d := tile.NewDisk()
	a, p := open(t, d, 4), newPlain(4)
	p = commit(t, a, p, numbered(3), nil)
	p = commit(t, a, p, nil, []int{2})
	d.Arm(1)
	expectArchive(t, a, p)
	expectTiles(t, a, p)
	p = forget(t, a, p, 0)
	if _, err := a.Commit(nil, []int{2}); err != api.ErrGone || d.Down() {
		t.Errorf("Commit: error %d", err)
	}
	f := d.Fork()
	for i, call := range []func(d *tile.Disk, a *tile.Archive) api.Errno{
		func(d *tile.Disk, a *tile.Archive) api.Errno { _, err := a.Commit(nil, nil); return err },
		func(d *tile.Disk, a *tile.Archive) api.Errno { return a.Forget(1) },
		func(d *tile.Disk, a *tile.Archive) api.Errno { return d.Sync(0) },
	} {
		d := f.Fork()
		if err := call(d, open(t, d, 4)); err != api.ErrDown || !d.Down() {
			t.Errorf("call %d makes no operation, or the operation that is armed was another one: error %d", i, err)
		}
	}
}

// P8.9 to P8.11, R7: no archive.
func TestNoArchive(t *testing.T) {
	for _, a := range []*tile.Archive{nil, {}} {
		if a.Version() != 0 || len(a.Versions()) != 0 {
			t.Error("no archive has a version")
		}
		for _, version := range []int{-1, 0, 1} {
			points, err := a.Points(version)
			tiles, tilesErr := a.Tiles(version)
			keys, keysErr := a.Changes(version, version)
			committed, commitErr := a.Commit(badPoints(), []int{version})
			if err != api.ErrArg || tilesErr != api.ErrArg || keysErr != api.ErrArg || commitErr != api.ErrArg || a.Forget(version) != api.ErrArg {
				t.Errorf("the errors of no archive are %d, %d, %d, %d", err, tilesErr, keysErr, commitErr)
			}
			if len(points)+len(tiles)+len(keys)+committed != 0 {
				t.Error("no archive has something")
			}
		}
	}
}

// P8.8, P8.9: an archive keeps what it has when its disk crashes, and when another one is opened there.
func TestOldArchives(t *testing.T) {
	d := tile.NewDisk()
	a, p := open(t, d, 4), newPlain(4)
	p = commit(t, a, p, numbered(5), nil)
	b := open(t, d, 4)
	q := commit(t, b, p, nil, []int{3})
	q = forget(t, b, q, 2)
	expectArchive(t, a, p)
	expectTiles(t, a, p)
	d.Crash([2]int{})
	expectArchive(t, a, p)
	expectArchive(t, b, q)
	expectTiles(t, b, q)
}

// R1: whatever is on the disk, Open and what follows end.
func TestOpenOfAnything(t *testing.T) {
	r := rand.New(rand.NewSource(12))
	d := tile.NewDisk()
	a := open(t, d, 4)
	for id := range 4 {
		a.Commit(numbered(4)[id:id+1], nil)
	}
	for range 5000 {
		f := d.Fork()
		for file := range 2 {
			b, _ := f.Read(file)
			f.Clear(file)
			for range r.Intn(3) {
				if len(b) > 0 {
					b[r.Intn(len(b))] = byte(r.Intn(256) >> r.Intn(8))
				}
			}
			more := make([]byte, r.Intn(9))
			r.Read(more)
			f.Append(file, append(b, more...))
		}
		if a, err := tile.Open(f, 4); err == api.OK {
			a.Commit(numbered(9), nil)
			a.Forget(a.Version())
			a.Tiles(a.Version())
		}
	}
}

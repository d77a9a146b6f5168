package tile

import (
	"maps"
	"slices"

	"lidar/api"
)

// Archive has versions of points, which it keeps as the records of one file of a disk. A commit appends a record. If there is something behind the last record that was cut off, or if versions are to be forgotten, one record of all versions takes the place of the file: it is written into the other file, and the old file is cleared when the new one is safe.
type Archive struct {
	history
	disk  *Disk // nil in a zero value alone
	file  int   // the one that has the records
	whole bool  // the file has records and nothing else, so that another one can be appended
	dead  bool
}

// Open returns the archive on a disk. It does not change the disk.
func Open(d *Disk, c int) (*Archive, api.Errno) {
	if d.none() || !validCapacity(c) {
		return nil, api.ErrArg
	}
	a := &Archive{history: history{capacity: c, versions: map[int][]api.Point{0: nil}}, disk: d}
	for file := range d.files {
		b, err := d.Read(file)
		if err != api.OK {
			return nil, err
		}
		// If both files have records, the power was lost while one took the place of the other, and either of them will do.
		if h, size := readHistory(b); size > 0 {
			a.history, a.file, a.whole = h, file, size == len(b)
		}
	}
	if a.capacity != c {
		return nil, api.ErrCap
	}
	return a, api.OK
}

// none reports whether a is nil or a zero value.
func (a *Archive) none() bool {
	return a == nil || a.disk == nil
}

// Version returns the greatest version.
func (a *Archive) Version() int {
	if a.none() {
		return 0
	}
	return a.last
}

// Versions returns the versions that the archive has, in ascending order.
func (a *Archive) Versions() []int {
	if a.none() {
		return nil
	}
	return slices.Sorted(maps.Keys(a.versions))
}

// Points returns the points of a version, in ascending order of their Ids.
func (a *Archive) Points(version int) ([]api.Point, api.Errno) {
	if err := a.check(version); err != api.OK {
		return nil, err
	}
	return slices.Clone(a.versions[version]), api.OK
}

// Tiles returns the layout of a version.
func (a *Archive) Tiles(version int) ([]api.Tile, api.Errno) {
	if err := a.check(version); err != api.OK {
		return nil, err
	}
	return a.layout(version), api.OK
}

// Changes returns the keys of the tiles that two versions do not have in common, in their order.
func (a *Archive) Changes(from, to int) ([]api.Key, api.Errno) {
	if err := a.check(from, to); err != api.OK {
		return nil, err
	}
	return changed(a.layout(from), a.layout(to)), api.OK
}

func (a *Archive) check(versions ...int) api.Errno {
	if a.none() {
		return api.ErrArg
	}
	for _, version := range versions {
		if !a.has(version) {
			return api.ErrVersion
		}
	}
	return api.OK
}

// Commit makes the next version of the greatest one, and returns its number.
func (a *Archive) Commit(add []api.Point, remove []int) (int, api.Errno) {
	if err := a.checkLife(); err != api.OK {
		return 0, err
	}
	c := change{add: add, remove: remove}
	points, err := c.apply(a.versions[a.last])
	if err != api.OK {
		return 0, err
	}
	if err := a.write(c); err != api.OK {
		return 0, err
	}
	a.add(points)
	return a.last, api.OK
}

// Forget removes all versions below one.
func (a *Archive) Forget(below int) api.Errno {
	if err := a.checkLife(); err != api.OK {
		return err
	}
	if !a.has(below) {
		return api.ErrVersion
	}
	if below == a.first() {
		return a.operate()
	}
	if err := a.replace(a.record(below)); err != api.OK {
		return err
	}
	a.forget(below)
	return api.OK
}

func (a *Archive) checkLife() api.Errno {
	switch {
	case a.none():
		return api.ErrArg
	case a.dead:
		return api.ErrDead
	}
	return api.OK
}

// write makes the next version safe.
func (a *Archive) write(c change) api.Errno {
	if !a.whole {
		r := a.record(a.first())
		r.changes = append(r.changes, c)
		return a.replace(r)
	}
	r := record{capacity: a.capacity, first: a.last + 1, changes: []change{c}}
	return a.operate(a.appending(a.file, r), a.syncing(a.file))
}

// replace lets a record take the place of the file.
func (a *Archive) replace(r record) api.Errno {
	old, other := a.file, 1-a.file
	err := a.operate(a.clearing(other), a.appending(other, r), a.syncing(other), a.clearing(old))
	if err == api.OK {
		a.file, a.whole = other, true
	}
	return err
}

// operation is something that is done to the disk.
type operation func() api.Errno

func (a *Archive) appending(file int, r record) operation {
	b := r.encode()
	return func() api.Errno { return a.disk.Append(file, b) }
}

func (a *Archive) syncing(file int) operation {
	return func() api.Errno { return a.disk.Sync(file) }
}

func (a *Archive) clearing(file int) operation {
	return func() api.Errno { return a.disk.Clear(file) }
}

// operate does one operation after the other. If the disk is down or goes down, the archive is dead.
func (a *Archive) operate(operations ...operation) api.Errno {
	a.dead = a.disk.Down()
	for _, do := range operations {
		a.dead = a.dead || do() != api.OK
	}
	if a.dead {
		return api.ErrDown
	}
	return api.OK
}

func (a *Archive) layout(version int) []api.Tile {
	return layout(a.versions[version], a.capacity)
}

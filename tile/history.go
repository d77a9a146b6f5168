package tile

import (
	"maps"
	"slices"

	"lidar/api"
	"lidar/code"
	"lidar/link"
)

// change is what makes a version of the one in front of it.
type change struct {
	add    []api.Point
	remove []int
}

// between returns the change that makes points of those in front of them. A point that became another one is removed and added.
func between(before, points []api.Point) change {
	gone := map[int]api.Point{}
	for _, p := range before {
		gone[p.Id] = p
	}
	var c change
	for _, p := range points {
		if q, there := gone[p.Id]; there && p == q {
			delete(gone, p.Id)
		} else {
			c.add = append(c.add, p)
		}
	}
	c.remove = slices.Sorted(maps.Keys(gone))
	return c
}

// apply returns what the change makes of valid points, in ascending order of their Ids.
func (c change) apply(points []api.Point) ([]api.Point, api.Errno) {
	if !validPoints(c.add) {
		return nil, api.ErrPoint
	}
	byIds := map[int]api.Point{}
	for _, p := range points {
		byIds[p.Id] = p
	}
	for _, id := range c.remove {
		if _, there := byIds[id]; !there {
			return nil, api.ErrGone
		}
		delete(byIds, id)
	}
	for _, p := range c.add {
		if _, there := byIds[p.Id]; there {
			return nil, api.ErrThere
		}
		byIds[p.Id] = p
	}
	if len(byIds) > api.MaxPoints {
		return nil, api.ErrMany
	}
	return slices.SortedFunc(maps.Values(byIds), byId), api.OK
}

// record is a part of a file: some versions, each as a change of the one in front of it. The first one of a file is a change of nothing.
type record struct {
	capacity int
	first    int // the version that the first change makes
	changes  []change
}

// encode returns the length of the record's body, the body, and a checksum. No beginning of it is a record, which is why the end of a file can be cut off anywhere.
func (r record) encode() []byte {
	body := code.Append(nil, r.capacity, r.first, len(r.changes))
	for _, c := range r.changes {
		body = code.Append(body, len(c.remove))
		body = code.Append(body, c.remove...)
		body = code.AppendPoints(body, slices.SortedFunc(slices.Values(c.add), byId))
	}
	b := code.Append(nil, len(body))
	return code.Seal(append(b, body...))
}

// readRecord returns the record at the beginning of b, and how many bytes it has; 0 if there is none.
func readRecord(b []byte) (record, int) {
	length, head, err := link.ReadNumber(b)
	if err != api.OK || length > len(b)-head-code.SumBytes {
		return record{}, 0
	}
	size := head + length + code.SumBytes
	body, right := code.Unseal(b[:size])
	if !right {
		return record{}, 0
	}
	reader := code.NewReader(body[head:])
	r := record{capacity: reader.Number(), first: reader.Number()}
	for range reader.Count() {
		r.changes = append(r.changes, readChange(reader))
	}
	if !reader.Ended() {
		return record{}, 0
	}
	return r, size
}

func readChange(r *code.Reader) change {
	var c change
	for range r.Count() {
		c.remove = append(c.remove, r.Number())
	}
	c.add = r.Points()
	return c
}

// history are the versions of an archive, which are consecutive.
type history struct {
	capacity int
	last     int
	versions map[int][]api.Point // in ascending order of their Ids; none of these lists is changed
}

// readHistory returns the history that the records of a file make, and how many bytes these have. What lies behind them was cut off when the power was lost.
func readHistory(b []byte) (history, int) {
	h, at := history{versions: map[int][]api.Point{}}, 0
	for {
		r, size := readRecord(b[at:])
		if size == 0 || !h.extend(r) {
			return h, at
		}
		at += size
	}
}

// extend adds the versions of a record, if these are the next ones.
func (h *history) extend(r record) bool {
	if len(h.versions) == 0 {
		h.capacity, h.last = r.capacity, r.first-1
	}
	if !validCapacity(r.capacity) || r.capacity != h.capacity || r.first != h.last+1 {
		return false
	}
	for _, c := range r.changes {
		points, err := c.apply(h.versions[h.last])
		if err != api.OK {
			return false
		}
		h.add(points)
	}
	return true
}

// add adds the next version.
func (h *history) add(points []api.Point) {
	h.last++
	h.versions[h.last] = points
}

// forget takes all versions below one away.
func (h *history) forget(below int) {
	maps.DeleteFunc(h.versions, func(version int, _ []api.Point) bool { return version < below })
}

func (h *history) first() int {
	return h.last + 1 - len(h.versions)
}

func (h *history) has(version int) bool {
	_, there := h.versions[version]
	return there
}

// record returns a record, for the beginning of a file, of all versions from one on.
func (h *history) record(from int) record {
	r := record{capacity: h.capacity, first: from}
	var before []api.Point
	for version := from; version <= h.last; version++ {
		r.changes = append(r.changes, between(before, h.versions[version]))
		before = h.versions[version]
	}
	return r
}

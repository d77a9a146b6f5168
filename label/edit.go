package label

import (
	"slices"

	"lidar/api"
	"lidar/exact"
)

// anyClass is the From of an edit that looks at no class.
const anyClass = -1

// Within reports whether a place lies within a ring, its sides included.
func Within(ring []api.XY, at api.XY) (bool, api.Errno) {
	if !isRing(ring) {
		return false, api.ErrRing
	}
	if !isPlace(at) {
		return false, api.ErrPlace
	}
	return surrounds(ring, at), api.OK
}

// Correct returns the classes of points after edits.
func Correct(points []api.Point, classes []int, edits []api.Edit) ([]int, api.Errno) {
	if !Valid(points) {
		return nil, api.ErrPoint
	}
	if len(classes) != len(points) {
		return nil, api.ErrArg
	}
	if err := checkEdits(edits); err != api.OK {
		return nil, err
	}
	list := slices.Clone(classes)
	correct(points, list, edits)
	return list, api.OK
}

// correct applies valid edits to the classes of points, in place.
func correct(points []api.Point, classes []int, edits []api.Edit) {
	for _, e := range edits {
		for i, p := range points {
			if concerns(e, p, classes[i]) {
				classes[i] = e.To
			}
		}
	}
}

// concerns reports whether an edit gives its class to a point that has a class now.
func concerns(e api.Edit, p api.Point, class int) bool {
	if len(e.Ring) == 0 {
		return p.Id == e.Id
	}
	return (e.From == anyClass || e.From == class) && surrounds(e.Ring, placeOf(p))
}

// checkEdits returns ErrArg if there are too many edits, and ErrEdit if one of them is not valid.
func checkEdits(edits []api.Edit) api.Errno {
	if len(edits) > api.MaxEdits {
		return api.ErrArg
	}
	for _, e := range edits {
		if !isEdit(e) {
			return api.ErrEdit
		}
	}
	return api.OK
}

func isEdit(e api.Edit) bool {
	if !isClass(e.To) {
		return false
	}
	return len(e.Ring) == 0 || isRing(e.Ring) && (e.From == anyClass || isClass(e.From))
}

func isClass(n int) bool {
	switch n {
	case api.Raw, api.Other, api.Ground, api.Plant, api.Roof, api.Noise:
		return true
	}
	return false
}

func isRing(ring []api.XY) bool {
	return allBetween(3, api.MaxRing, len(ring)) && !slices.ContainsFunc(ring, func(at api.XY) bool { return !isPlace(at) })
}

func isPlace(at api.XY) bool {
	return allBetween(-api.MaxCoord, api.MaxCoord, at.X, at.Y)
}

// surrounds reports whether a place lies on a side of a ring, or else whether the number of sides to its right is odd.
func surrounds(ring []api.XY, at api.XY) bool {
	odd := false
	for i, q := range ring {
		p := ring[(i+len(ring)-1)%len(ring)]
		turn, _ := exact.Turn(p, q, at)
		if turn == 0 && isAmong(at.X, p.X, q.X) && isAmong(at.Y, p.Y, q.Y) {
			return true
		}
		// A side that goes up is to the right of what is to its left, and one that goes down of what is to its right.
		if up := q.Y > at.Y; up != (p.Y > at.Y) && up == (turn > 0) {
			odd = !odd
		}
	}
	return odd
}

// isAmong reports whether n is not outside of the ends of a side.
func isAmong(n, a, b int) bool {
	return allBetween(min(a, b), max(a, b), n)
}

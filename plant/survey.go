package plant

import (
	"cmp"
	"slices"

	"lidar/api"
	"lidar/label"
	"lidar/strip"
)

// Settle returns the points of shots, in ascending order of their Ids, and how many shots give no point.
func Settle(shots []api.Shot, t [][3]api.Rat) ([]api.Point, int, api.Errno) {
	seen := map[int]bool{}
	for _, s := range shots {
		if !within(0, len(t)-1, s.Strip) || seen[s.Id] {
			return nil, 0, api.ErrArg
		}
		seen[s.Id] = true
	}
	var points []api.Point
	for _, s := range shots {
		p, ok := pointOf(s, t[s.Strip])
		if !ok {
			continue
		}
		if len(points) == api.MaxPoints {
			return nil, 0, api.ErrCount
		}
		points = append(points, p)
	}
	slices.SortFunc(points, byId)
	return points, len(shots) - len(points), api.OK
}

// pointOf returns the point of a shot whose strip is shifted, if there is one.
func pointOf(s api.Shot, shift [3]api.Rat) (api.Point, bool) {
	box, err := strip.Move(s.Box, shift)
	if err != api.OK {
		return api.Point{}, false
	}
	wide := max(box.X.Hi-box.X.Lo, box.Y.Hi-box.Y.Lo)
	p := api.Point{Id: s.Id, X: middle(box.X), Y: middle(box.Y), Z: box.Z, Wide: (wide + 1) / 2, Num: s.Num, Of: s.Of, Class: api.Raw}
	return p, label.Valid([]api.Point{p})
}

// middle returns half the sum of the ends of a span, rounded down also if it is negative.
func middle(s api.Span) int {
	return (s.Lo + s.Hi) >> 1
}

// Survey returns the points of all strips, classified.
func Survey(strips []api.Strip, matches []api.Match, edits []api.Edit, c api.Config) ([]api.Point, api.Errno) {
	if !Valid(c) {
		return nil, api.ErrConfig
	}
	if !within(1, c.Strips, len(strips)) || slices.ContainsFunc(strips, func(s api.Strip) bool { return !ValidStrip(s) }) {
		return nil, api.ErrStrip
	}
	shifts, _, err := strip.Adjust(api.Problem{Strips: len(strips), Matches: matches}, c.Limit)
	if err != api.OK {
		return nil, err
	}
	var shots []api.Shot
	for i, s := range strips {
		found, _ := shotsOf(i, s, c)
		shots = append(shots, found...)
	}
	points, _, err := Settle(shots, shifts)
	if err != api.OK {
		return nil, err
	}
	return label.Label(points, c.Terrain, edits)
}

// Difference returns what is to be added to old and removed from it, so that it becomes points.
func Difference(old, points []api.Point) (add []api.Point, remove []int, err api.Errno) {
	if !label.Valid(old) || !label.Valid(points) {
		return nil, nil, api.ErrPoint
	}
	for _, p := range onlyIn(old, points) {
		remove = append(remove, p.Id)
	}
	return onlyIn(points, old), remove, api.OK
}

// onlyIn returns the points, in ascending order of their Ids, that others do not have with all fields the same.
func onlyIn(points, others []api.Point) []api.Point {
	have := map[api.Point]bool{}
	for _, p := range others {
		have[p] = true
	}
	var list []api.Point
	for _, p := range points {
		if !have[p] {
			list = append(list, p)
		}
	}
	slices.SortFunc(list, byId)
	return list
}

func byId(p, q api.Point) int {
	return cmp.Compare(p.Id, q.Id)
}

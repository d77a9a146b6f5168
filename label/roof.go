package label

import (
	"slices"

	"lidar/api"
	"lidar/exact"
	"lidar/mesh"
)

// Roofs returns the Ids of the high points that belong to large groups.
func Roofs(points []api.Point, ground []int, r api.Terrain) ([]int, api.Errno) {
	s, err := newScene(points, r)
	if err != api.OK {
		return nil, err
	}
	list, err := pick(points, ground)
	if err != api.OK {
		return nil, err
	}
	m, err := meshOf(list)
	if err != api.OK {
		return nil, err
	}
	return idsOf(s.roofs(list, surfaceOf(m))), api.OK
}

// roofs returns the points of all groups of high points that have at least Few points.
func (s scene) roofs(ground []api.Point, over surface) []api.Point {
	high := s.high(ground, over)
	indexes := make([]int, len(high))
	for i := range indexes {
		indexes[i] = i
	}
	isLarge := func(group []int) bool { return len(group) >= s.rules.Few }
	var list []api.Point
	for group := range only(groups(indexes, s.links(high)), isLarge) {
		for _, i := range group {
			list = append(list, high[i])
		}
	}
	return list
}

// high returns the high points, in ascending order of their Ids.
func (s scene) high(ground []api.Point, over surface) []api.Point {
	isGround := setOf(ground)
	isHigh := func(p api.Point) bool {
		if p.Of != 1 || isGround[p.Id] || s.sunk[p.Id] {
			return false
		}
		rise, ok := over.rise(p)
		return ok && allBetween(s.rules.Tall, s.rules.High, rise.Lo)
	}
	return lowestOfEach(only(slices.Values(s.points), isHigh), placeOf)
}

// links returns, for the index of each high point, those of the ones that it is linked to.
func (s scene) links(high []api.Point) map[int][]int {
	m, _ := meshOf(high) // no two of them are at one place
	sides, _ := mesh.Sides(m)
	links := map[int][]int{}
	for _, side := range sides {
		a, b := side[0], side[1]
		if s.isNear(high[a], high[b]) && s.isLevel(high[a], high[b]) {
			links[a] = append(links[a], b)
			links[b] = append(links[b], a)
		}
	}
	return links
}

// isLevel reports whether the heights of two points are at most Flat apart.
func (s scene) isLevel(p, q api.Point) bool {
	apart, _ := exact.Gap(p.Z, q.Z)
	return apart <= s.rules.Flat
}

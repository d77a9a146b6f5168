package label

import (
	"cmp"
	"iter"
	"maps"
	"slices"

	"lidar/api"
)

// byHeight is the order of points: a point is lower than those after it.
func byHeight(p, q api.Point) int {
	return cmp.Or(cmp.Compare(p.Z.Hi, q.Z.Hi), cmp.Compare(p.Id, q.Id))
}

func byId(p, q api.Point) int {
	return cmp.Compare(p.Id, q.Id)
}

func placeOf(p api.Point) api.XY {
	return api.XY{X: p.X, Y: p.Y}
}

// squareOf returns the square of the distance of two places, which is at most 2^59.
func squareOf(a, b api.XY) int {
	x, y := a.X-b.X, a.Y-b.Y
	return x*x + y*y
}

// cell is a square of the plane, counted from the one to the upper right of the place (0, 0).
type cell struct {
	x, y int
}

// cellOf returns the cell of a point among those with a side.
func cellOf(p api.Point, side int) cell {
	return cell{floorOver(p.X, side), floorOver(p.Y, side)}
}

// around returns the cell and the eight ones around it.
func (c cell) around() []cell {
	var list []cell
	for x := c.x - 1; x <= c.x+1; x++ {
		for y := c.y - 1; y <= c.y+1; y++ {
			list = append(list, cell{x, y})
		}
	}
	return list
}

// floorOver returns x / n, rounded down, for a positive n.
func floorOver(x, n int) int {
	if x%n < 0 {
		return x/n - 1
	}
	return x / n
}

// idsOf returns the Ids in ascending order.
func idsOf(points []api.Point) []int {
	var ids []int
	for _, p := range points {
		ids = append(ids, p.Id)
	}
	slices.Sort(ids)
	return ids
}

func setOf(points []api.Point) map[int]bool {
	set := map[int]bool{}
	for _, p := range points {
		set[p.Id] = true
	}
	return set
}

// pick returns the points with these Ids, in ascending order of their Ids.
func pick(points []api.Point, ids []int) ([]api.Point, api.Errno) {
	byIds := map[int]api.Point{}
	for _, p := range points {
		byIds[p.Id] = p
	}
	var list []api.Point
	for _, id := range ids {
		p, ok := byIds[id]
		if !ok {
			return nil, api.ErrArg
		}
		list = append(list, p)
		delete(byIds, id)
	}
	slices.SortFunc(list, byId)
	return list, api.OK
}

// only hands on the items to which keep says true.
func only[T any](items iter.Seq[T], keep func(T) bool) iter.Seq[T] {
	return func(yield func(T) bool) {
		for item := range items {
			if keep(item) && !yield(item) {
				return
			}
		}
	}
}

// firstOfEach returns, for each key, the first item in the order that compare gives.
func firstOfEach[T any, K comparable](items iter.Seq[T], key func(T) K, compare func(a, b T) int) map[K]T {
	first := map[K]T{}
	for item := range items {
		k := key(item)
		if other, ok := first[k]; !ok || compare(item, other) < 0 {
			first[k] = item
		}
	}
	return first
}

// lowestOfEach returns, for each key, the lowest point, in ascending order of their Ids.
func lowestOfEach[K comparable](points iter.Seq[api.Point], key func(api.Point) K) []api.Point {
	return slices.SortedFunc(maps.Values(firstOfEach(points, key, byHeight)), byId)
}

// groups hands on each group of nodes that links connect, beginning with the group of the first node.
func groups[K comparable](nodes []K, links map[K][]K) iter.Seq[[]K] {
	return func(yield func([]K) bool) {
		seen := map[K]bool{}
		for _, start := range nodes {
			if seen[start] {
				continue
			}
			seen[start] = true
			group := []K{start}
			for i := 0; i < len(group); i++ {
				for _, next := range links[group[i]] {
					if !seen[next] {
						seen[next] = true
						group = append(group, next)
					}
				}
			}
			if !yield(group) {
				return
			}
		}
	}
}

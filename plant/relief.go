package plant

import (
	"slices"

	"lidar/api"
	"lidar/label"
	"lidar/mesh"
)

// Relief returns the mesh of the ground, with those of the breaklines that are possible.
func Relief(points []api.Point, breaks [][2]int) (api.Mesh, api.Errno) {
	if !label.Valid(points) {
		return api.Mesh{}, api.ErrPoint
	}
	if len(breaks) > api.MaxBreaks {
		return api.Mesh{}, api.ErrArg
	}
	ids := lowestGround(points)
	m, _ := label.Surface(points, ids) // no error: no two of them are at one place
	for _, b := range breaks {
		from, fromThere := slices.BinarySearch(ids, b[0])
		to, toThere := slices.BinarySearch(ids, b[1])
		if !fromThere || !toThere {
			continue
		}
		with, err := mesh.Build(m.V, append(slices.Clip(m.Lines), [2]int{from, to}))
		if err == api.OK {
			m = with
		}
	}
	return m, api.OK
}

// lowestGround returns the Ids of the ground points that are the lowest ones at their places, in ascending order: their indexes are those of the vertices of their surface.
func lowestGround(points []api.Point) []int {
	lowest := map[api.XY]api.Point{}
	for _, p := range points {
		q, taken := lowest[placeOf(p)]
		if p.Class == api.Ground && (!taken || isLower(p, q)) {
			lowest[placeOf(p)] = p
		}
	}
	var ids []int
	for _, p := range lowest {
		ids = append(ids, p.Id)
	}
	slices.Sort(ids)
	return ids
}

func isLower(p, q api.Point) bool {
	return p.Z.Hi < q.Z.Hi || p.Z.Hi == q.Z.Hi && p.Id < q.Id
}

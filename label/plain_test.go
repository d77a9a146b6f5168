package label_test

// The chapter's promises, written down as they stand there; surfaces are asked with the functions of package mesh.

import (
	"math/big"
	"slices"

	"lidar/api"
	"lidar/mesh"
)

func plainGap(a, b api.Span) int {
	return max(0, a.Lo-b.Hi, b.Lo-a.Hi)
}

// plainSquare returns the square of the distance of two places.
func plainSquare(a, b api.XY) *big.Int {
	x, y := big.NewInt(int64(a.X-b.X)), big.NewInt(int64(a.Y-b.Y))
	return x.Add(x.Mul(x, x), y.Mul(y, y))
}

func isNear(a, b api.XY, link int) bool {
	most := big.NewInt(int64(link))
	return plainSquare(a, b).Cmp(most.Mul(most, most)) <= 0
}

func isLower(p, q api.Point) bool {
	return p.Z.Hi < q.Z.Hi || p.Z.Hi == q.Z.Hi && p.Id < q.Id
}

func sorted(ids []int) []int {
	ids = slices.Clone(ids)
	slices.Sort(ids)
	return ids
}

func plainSunk(s scene) []int {
	var ids []int
	for _, p := range s.points {
		near, above := 0, 0
		for _, q := range s.points {
			if q.Id == p.Id || !isNear(placeOf(p), placeOf(q), s.rules.Link) {
				continue
			}
			near++
			if q.Z.Lo-p.Z.Hi > s.rules.Low {
				above++
			}
		}
		if near > 0 && near == above {
			ids = append(ids, p.Id)
		}
	}
	return sorted(ids)
}

// plainAlone returns the points to which no lower one is at the same place.
func plainAlone(points []api.Point) []api.Point {
	var list []api.Point
	for _, p := range points {
		if !slices.ContainsFunc(points, func(q api.Point) bool { return placeOf(q) == placeOf(p) && isLower(q, p) }) {
			list = append(list, p)
		}
	}
	return list
}

func plainLowest(points []api.Point) []api.Point {
	var list []api.Point
	for _, p := range points {
		if p.Num == p.Of {
			list = append(list, p)
		}
	}
	return plainAlone(list)
}

// plainWithout returns the points whose Ids are not in a list.
func plainWithout(points []api.Point, ids []int) []api.Point {
	var list []api.Point
	for _, p := range points {
		if !slices.Contains(ids, p.Id) {
			list = append(list, p)
		}
	}
	return list
}

func plainCandidates(s scene) []api.Point {
	return plainLowest(plainWithout(s.points, plainSunk(s)))
}

// plainCell returns the cell of a point; Div of big rounds down for a positive divisor.
func plainCell(p api.Point, cell int) [2]int64 {
	over := func(n int) int64 {
		return new(big.Int).Div(big.NewInt(int64(n)), big.NewInt(int64(cell))).Int64()
	}
	return [2]int64{over(p.X), over(p.Y)}
}

func plainSeeds(s scene) []int {
	var ids []int
	candidates := plainCandidates(s)
	for _, p := range candidates {
		if !slices.ContainsFunc(candidates, func(q api.Point) bool {
			return plainCell(q, s.rules.Cell) == plainCell(p, s.rules.Cell) && isLower(q, p)
		}) {
			ids = append(ids, p.Id)
		}
	}
	return sorted(ids)
}

func plainSurface(points []api.Point, ids []int) (api.Mesh, api.Errno) {
	var v []api.Vertex
	for i, id := range sorted(ids) {
		k := slices.IndexFunc(points, func(p api.Point) bool { return p.Id == id })
		if k < 0 || i > 0 && sorted(ids)[i-1] == id {
			return api.Mesh{}, api.ErrArg
		}
		v = append(v, api.Vertex{X: points[k].X, Y: points[k].Y, Z: points[k].Z})
	}
	m, err := mesh.Build(v, nil)
	if err == api.ErrSame {
		return api.Mesh{}, api.ErrPlace
	}
	return m, err
}

func plainFits(m api.Mesh, p api.Point, r api.Terrain) (bool, int) {
	i, err := mesh.Find(m, placeOf(p))
	if err != api.OK {
		return false, 0
	}
	bounds, _ := mesh.Bounds(m, placeOf(p))
	far := plainGap(p.Z, bounds)
	if far > r.Reach {
		return false, 0
	}
	for _, k := range m.T[i] {
		c := m.V[k]
		d, slope := big.NewInt(int64(plainGap(p.Z, c.Z))), big.NewInt(int64(r.Slope))
		rise := d.Mul(d.Mul(d, d), big.NewInt(1000000))
		if rise.Cmp(slope.Mul(slope.Mul(slope, slope), plainSquare(placeOf(p), place(c.X, c.Y)))) > 0 {
			return false, 0
		}
	}
	return true, far
}

func plainGrow(s scene, ground []int) []int {
	m, _ := plainSurface(s.points, ground)
	type fit struct {
		point api.Point
		far   int
	}
	best := map[int]fit{}
	for _, p := range plainWithout(plainCandidates(s), ground) {
		fits, far := plainFits(m, p, s.rules)
		if !fits {
			continue
		}
		i, _ := mesh.Find(m, placeOf(p))
		if b, ok := best[i]; !ok || far < b.far || far == b.far && isLower(p, b.point) {
			best[i] = fit{p, far}
		}
	}
	ids := slices.Clone(ground)
	for _, b := range best {
		ids = append(ids, b.point.Id)
	}
	return sorted(ids)
}

func plainGround(s scene) []int {
	ground := plainSeeds(s)
	for {
		more := plainGrow(s, ground)
		if len(more) == len(ground) {
			return ground
		}
		ground = more
	}
}

func plainRise(m api.Mesh, p api.Point) (api.Span, bool) {
	bounds, err := mesh.Bounds(m, placeOf(p))
	if err != api.OK {
		return api.Span{}, false
	}
	return api.Span{Lo: p.Z.Lo - bounds.Hi, Hi: p.Z.Hi - bounds.Lo}, true
}

func plainHigh(s scene, ground []int) []api.Point {
	m, _ := plainSurface(s.points, ground)
	var list []api.Point
	for _, p := range plainWithout(plainWithout(s.points, ground), plainSunk(s)) {
		rise, ok := plainRise(m, p)
		if ok && p.Of == 1 && rise.Lo >= s.rules.Tall && rise.Lo <= s.rules.High {
			list = append(list, p)
		}
	}
	return plainAlone(list)
}

// plainRoofs gives linked points the same number until nothing changes.
func plainRoofs(s scene, ground []int) []int {
	high := plainHigh(s, ground)
	slices.SortFunc(high, func(p, q api.Point) int { return p.Id - q.Id })
	m, _ := plainSurface(high, idsOf(high))
	sides, _ := mesh.Sides(m)
	group := make([]int, len(high))
	for i := range group {
		group[i] = i
	}
	for changed := true; changed; {
		changed = false
		for _, side := range sides {
			p, q := high[side[0]], high[side[1]]
			if !isNear(placeOf(p), placeOf(q), s.rules.Link) || plainGap(p.Z, q.Z) > s.rules.Flat || group[side[0]] == group[side[1]] {
				continue
			}
			least := min(group[side[0]], group[side[1]])
			group[side[0]], group[side[1]], changed = least, least, true
		}
	}
	size := map[int]int{}
	for _, g := range group {
		size[g]++
	}
	var ids []int
	for i, p := range high {
		if size[group[i]] >= s.rules.Few {
			ids = append(ids, p.Id)
		}
	}
	return ids
}

func plainClassify(s scene) []int {
	ground := plainGround(s)
	m, _ := plainSurface(s.points, ground)
	sunk, roofs := plainSunk(s), plainRoofs(s, ground)
	classes := make([]int, len(s.points))
	for i, p := range s.points {
		rise, ok := plainRise(m, p)
		if slices.Contains(sunk, p.Id) {
			classes[i] = api.Noise
		} else if slices.Contains(ground, p.Id) {
			classes[i] = api.Ground
		} else if !ok {
			classes[i] = api.Other
		} else if rise.Lo > s.rules.High || rise.Hi < -s.rules.Low {
			classes[i] = api.Noise
		} else if slices.Contains(roofs, p.Id) {
			classes[i] = api.Roof
		} else if rise.Lo >= s.rules.Brush {
			classes[i] = api.Plant
		} else {
			classes[i] = api.Other
		}
	}
	return classes
}

// plainOn reports whether a place is between p and q, or one of them: whether it is (1 - u) * p + u * q with a u from 0 to 1.
func plainOn(p, q, at api.XY) bool {
	if p == q {
		return at == p
	}
	along := big.NewRat(int64((at.X-p.X)*(q.X-p.X)+(at.Y-p.Y)*(q.Y-p.Y)), int64((q.X-p.X)*(q.X-p.X)+(q.Y-p.Y)*(q.Y-p.Y)))
	if along.Sign() < 0 || along.Cmp(big.NewRat(1, 1)) > 0 {
		return false
	}
	reach := func(from, to int) *big.Rat {
		x := new(big.Rat).Mul(along, big.NewRat(int64(to-from), 1))
		return x.Add(x, big.NewRat(int64(from), 1))
	}
	return reach(p.X, q.X).Cmp(big.NewRat(int64(at.X), 1)) == 0 && reach(p.Y, q.Y).Cmp(big.NewRat(int64(at.Y), 1)) == 0
}

// plainRight reports whether a side crosses the line through a place to the right of it.
func plainRight(p, q, at api.XY) bool {
	if (p.Y > at.Y) == (q.Y > at.Y) {
		return false
	}
	x := big.NewRat(int64(at.Y-p.Y), int64(q.Y-p.Y))
	x.Mul(x, big.NewRat(int64(q.X-p.X), 1))
	x.Add(x, big.NewRat(int64(p.X), 1))
	return x.Cmp(big.NewRat(int64(at.X), 1)) > 0
}

func plainWithin(ring []api.XY, at api.XY) bool {
	count := 0
	for i, p := range ring {
		q := ring[(i+1)%len(ring)]
		if plainOn(p, q, at) {
			return true
		}
		if plainRight(p, q, at) {
			count++
		}
	}
	return count%2 == 1
}

func plainCorrect(points []api.Point, classes []int, edits []api.Edit) []int {
	classes = slices.Clone(classes)
	for _, e := range edits {
		for i, p := range points {
			if len(e.Ring) == 0 && e.Id == p.Id {
				classes[i] = e.To
			}
			if len(e.Ring) > 0 && plainWithin(e.Ring, placeOf(p)) && (e.From == -1 || e.From == classes[i]) {
				classes[i] = e.To
			}
		}
	}
	return classes
}

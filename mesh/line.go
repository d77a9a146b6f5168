package mesh

import "slices"

// put makes a line a side that stays, and reports whether this is possible: whether no vertex lies on it and no line crosses it.
func (n *net) put(line side) bool {
	if !n.has(line) {
		left, right, ok := n.cut(line)
		if !ok {
			return false
		}
		slices.Reverse(right)
		n.fill(line, left)
		n.fill(back(line), right)
	}
	n.lines[upward(line)] = true
	return true
}

// cut removes the triangles that a line crosses, and returns the vertices along both sides of the gap, in the direction of the line.
func (n *net) cut(line side) (left, right []int, ok bool) {
	s, ok := n.ahead(line)
	if !ok {
		return nil, nil, false
	}
	n.remove(line[0], s[0], s[1])
	right, left = append(right, s[0]), append(left, s[1])
	for !n.lines[upward(s)] {
		c := n.corner[back(s)]
		n.remove(s[1], s[0], c)
		if c == line[1] {
			return left, right, true
		}
		switch n.turn(line, c) {
		case 0:
			return nil, nil, false
		case 1:
			s[1] = c
			left = append(left, c)
		case -1:
			s[0] = c
			right = append(right, c)
		}
	}
	return nil, nil, false
}

// ahead returns the side through which a line, which is no side, leaves the triangle in which it begins. There is none if the line begins with a side, up to a vertex that lies on it.
func (n *net) ahead(line side) (side, bool) {
	for s, c := range n.corner {
		if c == line[0] && n.turn(line, s[0]) < 0 && n.turn(line, s[1]) > 0 {
			return s, true
		}
	}
	return side{}, false
}

// turn tells on which side of a line a vertex lies.
func (n *net) turn(line side, p int) int {
	return turn(n.at[line[0]], n.at[line[1]], n.at[p])
}

// fill covers the gap between a side and the vertices to the left of it, in order from its beginning to its end, with triangles.
//
// Each of these vertices sees the side: an edge that was removed led from it straight across. Therefore the triangle of the side and the nearest vertex overlaps nothing outside of the gap, and what is left beyond its two other sides are gaps of the same kind. A vertex that is in the list twice, because edges from it end within the gap, is not the nearest one: the edges that were removed left no wide angle around those ends, so that they come nearer to the side.
func (n *net) fill(s side, chain []int) {
	if len(chain) == 0 {
		return
	}
	nearest := 0
	for i, p := range chain {
		if n.distance(s, p) < n.distance(s, chain[nearest]) {
			nearest = i
		}
	}
	p := chain[nearest]
	n.add(s[0], s[1], p)
	n.fill(side{s[0], p}, chain[:nearest])
	n.fill(side{p, s[1]}, chain[nearest+1:])
}

// distance returns the distance of a vertex to the left from a side, times the length of the side.
func (n *net) distance(s side, p int) int {
	return area(n.at[s[0]], n.at[s[1]], n.at[p])
}

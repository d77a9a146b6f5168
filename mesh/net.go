package mesh

import (
	"slices"

	"lidar/api"
)

// side is a side of a triangle, from one vertex to another one.
type side = [2]int

func back(s side) side {
	return side{s[1], s[0]}
}

// upward returns a side with the lesser index first.
func upward(s side) side {
	return side{min(s[0], s[1]), max(s[0], s[1])}
}

func compareSides(s, t side) int {
	return slices.Compare(s[:], t[:])
}

// net is a set of triangles that do not overlap.
type net struct {
	at     []api.XY
	corner map[side]int  // the third corner of the triangle to the left of each side
	lines  map[side]bool // the sides that stay
	doubts []side        // sides that may not be legal
}

func newNet(at []api.XY) *net {
	return &net{at: at, corner: make(map[side]int, 6*len(at)), lines: map[side]bool{}}
}

// set enters the triangle a, b, c, which turns counterclockwise.
func (n *net) set(a, b, c int) {
	n.corner[side{a, b}] = c
	n.corner[side{b, c}] = a
	n.corner[side{c, a}] = b
}

// add enters a triangle whose sides may not be legal.
func (n *net) add(a, b, c int) {
	n.set(a, b, c)
	n.doubts = append(n.doubts, side{a, b}, side{b, c}, side{c, a})
}

// remove takes the triangle a, b, c out.
func (n *net) remove(a, b, c int) {
	delete(n.corner, side{a, b})
	delete(n.corner, side{b, c})
	delete(n.corner, side{c, a})
}

// has reports whether there is a triangle at one of the two sides of s.
func (n *net) has(s side) bool {
	_, left := n.corner[s]
	_, right := n.corner[back(s)]
	return left || right
}

// relax replaces sides that are not legal by the other diagonals of their two triangles, until all are legal.
func (n *net) relax() {
	for len(n.doubts) > 0 {
		last := len(n.doubts) - 1
		s := n.doubts[last]
		n.doubts = n.doubts[:last]
		c, left := n.corner[s]
		d, right := n.corner[back(s)]
		if left && right && !n.mayStay(s, c, d) {
			delete(n.corner, s)
			delete(n.corner, back(s))
			n.add(c, s[0], d)
			n.add(d, s[1], c)
		}
	}
}

// mayStay reports whether a side between the corners c and d is a line or legal.
func (n *net) mayStay(s side, c, d int) bool {
	return n.lines[upward(s)] || legal(n.at[s[0]], n.at[s[1]], n.at[c], n.at[d])
}

// triangles returns all triangles, the least index first, in ascending order.
func (n *net) triangles() [][3]int {
	list := make([][3]int, 0, len(n.corner)/3)
	for s, c := range n.corner {
		if s[0] < s[1] && s[0] < c {
			list = append(list, [3]int{s[0], s[1], c})
		}
	}
	slices.SortFunc(list, func(t, u [3]int) int { return slices.Compare(t[:], u[:]) })
	return list
}

// sides returns all sides, the lesser index first, in ascending order.
func (n *net) sides() []side {
	list := make([]side, 0, len(n.corner)/2)
	for s := range n.corner {
		_, twice := n.corner[back(s)]
		if s[0] < s[1] || !twice {
			list = append(list, upward(s))
		}
	}
	slices.SortFunc(list, compareSides)
	return list
}

// triangulate returns the Delaunay triangulation of vertices and lines, and whether no line meets another one or a vertex but at common ends.
func (s *sweep) triangulate(lines []side) (*net, bool) {
	n := newNet(s.at)
	if s.isFlat() {
		return n, s.joinsNext(lines)
	}
	for _, t := range s.cover {
		n.add(t[0], t[1], t[2])
		n.relax() // at once, as fewer sides are replaced this way
	}
	for _, l := range lines {
		if !n.put(l) {
			return nil, false
		}
	}
	n.relax()
	return n, true
}

// joinsNext reports whether every line joins vertices that are next to each other in the order of places.
func (s *sweep) joinsNext(lines []side) bool {
	next := map[side]bool{}
	for k := 1; k < len(s.order); k++ {
		next[upward(side{s.order[k-1], s.order[k]})] = true
	}
	return !slices.ContainsFunc(lines, func(l side) bool { return !next[upward(l)] })
}

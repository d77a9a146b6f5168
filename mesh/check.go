package mesh

import (
	"slices"

	"lidar/api"
)

// read returns the triangles of a mesh, if it is canonical.
//
// It does not build them anew: triangles that cover the hull once, with every line as a side, and whose other sides are legal are the Delaunay triangulation, as there is only one.
func read(m api.Mesh) (*net, api.Errno) {
	s, err := newSweep(m.V)
	if err != api.OK {
		return nil, api.ErrMesh
	}
	lines, err := tidy(m.Lines, len(m.V))
	if err != api.OK || !slices.Equal(lines, m.Lines) {
		return nil, api.ErrMesh
	}
	n := newNet(s.at)
	if !n.load(m.T) || !n.keep(s, lines) || !n.isWhole(s) {
		return nil, api.ErrMesh
	}
	return n, api.OK
}

// load enters a list of triangles, and reports whether each is as it must be in a canonical mesh and no two are on one side of a side.
func (n *net) load(list [][3]int) bool {
	for i, t := range list {
		if i > 0 && slices.Compare(list[i-1][:], t[:]) >= 0 || !n.mayLoad(t) {
			return false
		}
		n.set(t[0], t[1], t[2])
	}
	return true
}

func (n *net) mayLoad(t [3]int) bool {
	if min(t[1], t[2]) <= t[0] || !isIndex(t[0], len(n.at)) || !isIndex(max(t[1], t[2]), len(n.at)) {
		return false
	}
	for i, a := range t {
		if _, taken := n.corner[side{a, t[(i+1)%3]}]; taken {
			return false
		}
	}
	return turn(n.at[t[0]], n.at[t[1]], n.at[t[2]]) > 0
}

// keep makes lines sides that stay, and reports whether they can be lines of a mesh with these triangles.
func (n *net) keep(s *sweep, lines []side) bool {
	if s.isFlat() {
		return s.joinsNext(lines)
	}
	for _, l := range lines {
		if !n.has(l) {
			return false
		}
		n.lines[l] = true
	}
	return true
}

// isWhole reports whether the triangles are a triangulation, in which all sides may stay.
//
// All triangles turn counterclockwise. If the border of all of them lies on the border of the hull, crossing any other side leads from one triangle into another one; so they cover each place of the hull once, or there are none. And they are as many as a triangulation that uses all vertices has.
func (n *net) isWhole(s *sweep) bool {
	if s.isFlat() {
		return true // no triangle could be loaded
	}
	border := s.border()
	outer := map[side]bool{}
	for k, p := range border {
		outer[side{p, border[(k+1)%len(border)]}] = true
	}
	for t, c := range n.corner {
		d, inner := n.corner[back(t)]
		if !inner && !outer[t] || inner && t[0] < t[1] && !n.mayStay(t, c, d) {
			return false
		}
	}
	return len(n.corner) == 3*(2*len(n.at)-2-len(border))
}

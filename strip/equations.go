package strip

import (
	"slices"

	"lidar/api"
	"lidar/fraction"
)

// table holds entries row by row.
type table[T any] struct {
	rows [][]T
}

func newTable[T any](rows, columns int) table[T] {
	t := table[T]{make([][]T, rows)}
	for i := range t.rows {
		t.rows[i] = make([]T, columns)
	}
	return t
}

func (t table[T]) at(i, j int) T {
	return t.rows[i][j]
}

func (t table[T]) put(i, j int, entry T) {
	t.rows[i][j] = entry
}

// term is an unknown with its coefficient in a match.
type term struct {
	unknown, factor int
}

// terms returns the unknowns that the residual of a match may depend on.
func terms(m api.Match) []term {
	var list []term
	for k, n := range m.Normal {
		list = append(list, term{3*m.A + k, n})
		if m.B != ground {
			list = append(list, term{3*m.B + k, -n})
		}
	}
	return list
}

// Equations returns the normal equations of a problem: N row by row, and R.
func Equations(p api.Problem) ([][]int, []int, api.Errno) {
	if !Valid(p) {
		return nil, nil, api.ErrProblem
	}
	n, r := equations(p)
	return n.rows, r, api.OK
}

// equations forms N and R. By the limits of a problem, its sums fit into an int.
func equations(p api.Problem) (table[int], []int) {
	n, r := newTable[int](3*p.Strips, 3*p.Strips), make([]int, 3*p.Strips)
	for _, m := range p.Matches {
		list := terms(m)
		for _, a := range list {
			r[a.unknown] -= m.W * m.D * a.factor
			for _, b := range list {
				n.put(a.unknown, b.unknown, n.at(a.unknown, b.unknown)+m.W*a.factor*b.factor)
			}
		}
	}
	return n, r
}

// system are the normal equations of a problem after elimination: N with R as a last column, the pivots, and the determinant of what N has in their rows and columns.
type system struct {
	table[fraction.Fraction]
	pivots []int
	det    fraction.Fraction
}

func newSystem(p api.Problem) *system {
	n, r := equations(p)
	s := &system{table: newTable[fraction.Fraction](len(r), len(r)+1), det: fraction.FromInt(1)}
	for i, row := range n.rows {
		for j, x := range append(row, r[i]) {
			s.put(i, j, fraction.FromInt(x))
		}
	}
	s.eliminate()
	return s
}

// eliminate leaves in the row of each pivot only the unknowns from this pivot on.
//
// N is a sum of squares, and so is what is left of it after each step: where its diagonal is 0, the whole row and column are 0, and the unknown is free. It also stays symmetric, so that nothing on the left of its diagonal is needed or kept.
func (s *system) eliminate() {
	for k := range s.rows {
		pivot := s.at(k, k)
		if pivot.Sign() == 0 {
			continue
		}
		for i := k + 1; i < len(s.rows); i++ {
			s.reduce(i, k)
		}
		s.pivots = append(s.pivots, k)
		s.det = pivot
	}
}

// reduce removes the pivot k from the row i. By Bareiss's method the division by the determinant of the pivots before k leaves no remainder: every entry is a determinant of entries of N and R.
func (s *system) reduce(i, k int) {
	for j := i; j <= len(s.rows); j++ {
		entry := s.at(k, k).Mul(s.at(i, j)).Sub(s.at(k, i).Mul(s.at(k, j)))
		entry, _ = entry.Div(s.det)
		s.put(i, j, entry)
	}
}

// solution returns the solution in which all free unknowns are 0. By Cramer's rule its numerators over the determinant are integers.
func (s *system) solution() shifts {
	numerators := make([]fraction.Fraction, len(s.rows))
	for _, k := range slices.Backward(s.pivots) {
		sum := s.det.Mul(s.at(k, len(s.rows)))
		for j := k + 1; j < len(s.rows); j++ {
			sum = sum.Sub(s.at(k, j).Mul(numerators[j]))
		}
		numerators[k], _ = sum.Div(s.at(k, k))
	}
	return shifts{numerators, s.det}
}

// Pivots reports for each unknown whether it is a pivot.
func Pivots(p api.Problem) ([]bool, api.Errno) {
	if !Valid(p) {
		return nil, api.ErrProblem
	}
	list := make([]bool, 3*p.Strips)
	for _, k := range newSystem(p).pivots {
		list[k] = true
	}
	return list, api.OK
}

// Solve returns the shifts that satisfy the normal equations and in which all free unknowns are 0.
func Solve(p api.Problem) ([][3]api.Rat, api.Errno) {
	if !Valid(p) {
		return nil, api.ErrProblem
	}
	return newSystem(p).solution().list(), api.OK
}

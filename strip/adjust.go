package strip

import (
	"lidar/api"
	"lidar/fraction"
)

// Without returns a problem without the matches with these indexes.
func Without(p api.Problem, drop []int) (api.Problem, api.Errno) {
	if !Valid(p) {
		return api.Problem{}, api.ErrProblem
	}
	dropped := make([]bool, len(p.Matches))
	for _, i := range drop {
		if !within(0, len(dropped)-1, i) || dropped[i] {
			return api.Problem{}, api.ErrArg
		}
		dropped[i] = true
	}
	left := api.Problem{Strips: p.Strips}
	for i, m := range p.Matches {
		if !dropped[i] {
			left.Matches = append(left.Matches, m)
		}
	}
	return left, api.OK
}

// Adjust solves a problem, and removes the worst match and solves what is left anew, as long as its product is greater than the limit. It also returns the indexes of the removed matches.
func Adjust(p api.Problem, limit int) ([][3]api.Rat, []int, api.Errno) {
	if !Valid(p) {
		return nil, nil, api.ErrProblem
	}
	if limit < 0 {
		return nil, nil, api.ErrArg
	}
	indexes := make([]int, len(p.Matches)) // of the matches that are left
	for i := range indexes {
		indexes[i] = i
	}
	var removed []int
	for {
		s := newSystem(p).solution()
		i, misfit := s.worst(p.Matches)
		if misfit.Cmp(fraction.FromInt(limit).Mul(s.square())) <= 0 {
			return s.list(), removed, api.OK
		}
		removed = append(removed, indexes[i])
		indexes, p.Matches = leftOut(indexes, i), leftOut(p.Matches, i)
	}
}

// leftOut returns a list without its element i. Without room behind the first part, the elements of the list itself stay.
func leftOut[E any](list []E, i int) []E {
	return append(list[:i:i], list[i+1:]...)
}

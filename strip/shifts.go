package strip

import (
	"cmp"
	"slices"

	"lidar/api"
	"lidar/exact"
	"lidar/fraction"
)

// shifts holds the unknowns as integers over one denominator, which is greater than 0: sums of them need no common divisors.
type shifts struct {
	numerators []fraction.Fraction
	den        fraction.Fraction
}

// given returns the shifts that an exported function was given with a problem, and its first error.
func given(p api.Problem, t [][3]api.Rat) (shifts, api.Errno) {
	if !Valid(p) {
		return shifts{}, api.ErrProblem
	}
	if len(t) != p.Strips {
		return shifts{}, api.ErrShift
	}
	var unknowns []fraction.Fraction
	for _, shift := range t {
		numbers, err := numbersOf(shift)
		if err != api.OK {
			return shifts{}, err
		}
		unknowns = append(unknowns, numbers[:]...)
	}
	numerators, den := fraction.Common(unknowns)
	return shifts{numerators, den}, api.OK
}

// numbersOf returns the elements of a shift without a limit for what is formed with them.
func numbersOf(shift [3]api.Rat) ([3]fraction.Fraction, api.Errno) {
	var numbers [3]fraction.Fraction
	for k, x := range shift {
		if _, err := exact.Canon(x); err != api.OK {
			return [3]fraction.Fraction{}, api.ErrShift
		}
		numbers[k] = fraction.FromRat(x)
	}
	return numbers, api.OK
}

// list returns shifts that are not large, one for each strip.
func (s shifts) list() [][3]api.Rat {
	t := make([][3]api.Rat, len(s.numerators)/3)
	for i, n := range s.numerators {
		t[i/3][i%3] = ratio(n, s.den).Rat()
	}
	return t
}

// ratio returns x / den, where den is not 0.
func ratio(x, den fraction.Fraction) fraction.Fraction {
	quotient, _ := x.Div(den)
	return quotient
}

// result returns x / den as a result, which must not be large.
func result(x, den fraction.Fraction) (api.Rat, api.Errno) {
	return exact.Canon(ratio(x, den).Rat())
}

// residual returns the residual of a match, times the denominator.
func (s shifts) residual(m api.Match) fraction.Fraction {
	sum := fraction.FromInt(m.D).Mul(s.den)
	for _, c := range terms(m) {
		sum = sum.Add(fraction.FromInt(c.factor).Mul(s.numerators[c.unknown]))
	}
	return sum
}

// misfit returns W times the square of the residual of a match, times the square of the denominator.
func (s shifts) misfit(m api.Match) fraction.Fraction {
	r := s.residual(m)
	return fraction.FromInt(m.W).Mul(r.Mul(r))
}

// square returns the square of the denominator.
func (s shifts) square() fraction.Fraction {
	return s.den.Mul(s.den)
}

// slopes returns the slopes, times the denominator.
func (s shifts) slopes(matches []api.Match) []fraction.Fraction {
	list := make([]fraction.Fraction, len(s.numerators))
	for _, m := range matches {
		weighted := fraction.FromInt(m.W).Mul(s.residual(m))
		for _, c := range terms(m) {
			list[c.unknown] = list[c.unknown].Add(fraction.FromInt(c.factor).Mul(weighted))
		}
	}
	return list
}

// worst returns the index of the match with the greatest misfit, and this misfit, times the square of the denominator; without matches, -1 and 0.
func (s shifts) worst(matches []api.Match) (int, fraction.Fraction) {
	worst, greatest := -1, fraction.Fraction{}
	for i, m := range matches {
		misfit := s.misfit(m)
		if worst < 0 || cmp.Or(misfit.Cmp(greatest), inOrder(matches[worst], m)) > 0 {
			worst, greatest = i, misfit
		}
	}
	return worst, greatest
}

// inOrder compares the contents of two matches.
func inOrder(m, n api.Match) int {
	return cmp.Or(cmp.Compare(m.A, n.A), cmp.Compare(m.B, n.B), slices.Compare(m.Normal[:], n.Normal[:]), cmp.Compare(m.D, n.D), cmp.Compare(m.W, n.W))
}

// Residual returns the residual of a match.
func Residual(p api.Problem, t [][3]api.Rat, i int) (api.Rat, api.Errno) {
	s, err := given(p, t)
	if err != api.OK {
		return api.Rat{}, err
	}
	if !within(0, len(p.Matches)-1, i) {
		return api.Rat{}, api.ErrArg
	}
	return result(s.residual(p.Matches[i]), s.den)
}

// Misfit returns the sum of the weighted squares of all residuals.
func Misfit(p api.Problem, t [][3]api.Rat) (api.Rat, api.Errno) {
	s, err := given(p, t)
	if err != api.OK {
		return api.Rat{}, err
	}
	var sum fraction.Fraction
	for _, m := range p.Matches {
		sum = sum.Add(s.misfit(m))
	}
	return result(sum, s.square())
}

// Slopes returns half the derivatives of the misfit by the unknowns.
func Slopes(p api.Problem, t [][3]api.Rat) ([]api.Rat, api.Errno) {
	s, err := given(p, t)
	if err != api.OK {
		return nil, err
	}
	list := make([]api.Rat, 3*p.Strips)
	for i, x := range s.slopes(p.Matches) {
		if list[i], err = result(x, s.den); err != api.OK {
			return nil, err
		}
	}
	return list, api.OK
}

// Minimal reports whether no other shifts have a smaller misfit. The misfit is a sum of squares, so its minimum is where all slopes are 0.
func Minimal(p api.Problem, t [][3]api.Rat) (bool, api.Errno) {
	s, err := given(p, t)
	if err != api.OK {
		return false, err
	}
	for _, x := range s.slopes(p.Matches) {
		if x.Sign() != 0 {
			return false, api.OK
		}
	}
	return true, api.OK
}

// Worst returns the index of the match with the greatest weighted square of its residual, and this product.
func Worst(p api.Problem, t [][3]api.Rat) (int, api.Rat, api.Errno) {
	s, err := given(p, t)
	if err != api.OK {
		return 0, api.Rat{}, err
	}
	i, misfit := s.worst(p.Matches)
	product, err := result(misfit, s.square())
	if err != api.OK {
		return 0, api.Rat{}, err
	}
	return i, product, api.OK
}

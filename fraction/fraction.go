// Package fraction implements rational numbers of any size. The layers whose arguments and results are bounded form with it what has no bound on the way.
package fraction

import (
	"math"

	"lidar/api"
)

// Fraction is a rational number, in lowest terms. Its zero value is 0.
type Fraction struct {
	neg      bool  // false for 0
	num, den whole // den is empty for 1
}

// FromInt returns n.
func FromInt(n int) Fraction {
	if n < 0 {
		return Fraction{neg: true, num: single(-uint64(n))}
	}
	return Fraction{num: single(uint64(n))}
}

// FromRat returns the number that x denotes.
func FromRat(x api.Rat) Fraction {
	den := pack(x.Den)
	if len(den) == 0 {
		den = single(1)
	}
	return reduced(x.Neg, pack(x.Num), den)
}

// reduced returns num / den, or -num / den if neg is true; den is not 0.
func reduced(neg bool, num, den whole) Fraction {
	if len(num) == 0 {
		return Fraction{}
	}
	if !isOne(den) {
		divisor := commonDivisor(num, den)
		num, _ = divide(num, divisor)
		den, _ = divide(den, divisor)
	}
	if isOne(den) {
		den = nil
	}
	return Fraction{neg, num, den}
}

// Rat returns the canonical value that denotes x.
func (x Fraction) Rat() api.Rat {
	return api.Rat{Neg: x.neg, Num: unpack(x.num), Den: unpack(x.den)}
}

// Int returns x and true, if x is an int.
func (x Fraction) Int() (int, bool) {
	if len(x.den) > 0 || len(x.num) > 1 {
		return 0, false
	}
	var w uint64
	if len(x.num) == 1 {
		w = x.num[0]
	}
	switch {
	case !x.neg && w <= math.MaxInt:
		return int(w), true
	case x.neg && w <= -math.MinInt:
		return int(-w), true
	}
	return 0, false
}

// Text returns x in decimal digits, with the denominator behind a slash if it is not 1.
func (x Fraction) Text() string {
	text := decimal(x.num)
	if x.neg {
		text = "-" + text
	}
	if len(x.den) > 0 {
		text += "/" + decimal(x.den)
	}
	return text
}

// Sign returns -1, 0 or 1.
func (x Fraction) Sign() int {
	switch {
	case x.neg:
		return -1
	case len(x.num) > 0:
		return 1
	}
	return 0
}

// Cmp returns -1 if x is less than y, 0 if they are equal, and 1 if x is greater.
func (x Fraction) Cmp(y Fraction) int {
	a, b := times(x.num, y.denominator()), times(y.num, x.denominator())
	switch {
	case x.neg && y.neg:
		return compare(b, a)
	case x.neg:
		return -1
	case y.neg:
		return 1
	}
	return compare(a, b)
}

// Neg returns -x.
func (x Fraction) Neg() Fraction {
	return Fraction{!x.neg && len(x.num) > 0, x.num, x.den}
}

// Add returns x + y.
func (x Fraction) Add(y Fraction) Fraction {
	den := times(x.denominator(), y.denominator())
	a, b := times(x.num, y.denominator()), times(y.num, x.denominator())
	if x.neg == y.neg {
		return reduced(x.neg, plus(a, b), den)
	}
	if compare(a, b) < 0 {
		return reduced(y.neg, minus(b, a), den)
	}
	return reduced(x.neg, minus(a, b), den)
}

// Sub returns x - y.
func (x Fraction) Sub(y Fraction) Fraction {
	return x.Add(y.Neg())
}

// Mul returns x * y.
func (x Fraction) Mul(y Fraction) Fraction {
	return reduced(x.neg != y.neg, times(x.num, y.num), times(x.denominator(), y.denominator()))
}

// Div returns x / y and true, or false if y is 0.
func (x Fraction) Div(y Fraction) (Fraction, bool) {
	if len(y.num) == 0 {
		return Fraction{}, false
	}
	return reduced(x.neg != y.neg, times(x.num, y.denominator()), times(x.denominator(), y.num)), true
}

// Floor returns the greatest integer that is not greater than x.
func (x Fraction) Floor() Fraction {
	quotient, rest := divide(x.num, x.denominator())
	if x.neg && len(rest) > 0 {
		quotient = plus(quotient, single(1))
	}
	return Fraction{neg: x.neg, num: quotient}
}

// Ceil returns the least integer that is not less than x.
func (x Fraction) Ceil() Fraction {
	return x.Neg().Floor().Neg()
}

// Common returns integers and an integer greater than 0 that are the numerators and the common denominator of the numbers of a list.
func Common(list []Fraction) ([]Fraction, Fraction) {
	den := single(1)
	for _, x := range list {
		missing, _ := divide(x.denominator(), commonDivisor(den, x.denominator()))
		den = times(den, missing)
	}
	numerators := make([]Fraction, len(list))
	for i, x := range list {
		factor, _ := divide(den, x.denominator())
		numerators[i] = Fraction{neg: x.neg, num: times(x.num, factor)}
	}
	return numerators, Fraction{num: den}
}

func (x Fraction) denominator() whole {
	if len(x.den) == 0 {
		return single(1)
	}
	return x.den
}

package exact_test

import (
	"math/big"
	"math/rand"
	"reflect"
	"testing"

	"lidar/api"
)

// sum returns the sum of list[i] * 2^(32*i).
func sum(list []uint32) *big.Int {
	total := new(big.Int)
	for i := len(list) - 1; i >= 0; i-- {
		total.Lsh(total, 32)
		total.Add(total, big.NewInt(int64(list[i])))
	}
	return total
}

// value returns the number that x denotes, as the chapter defines it.
func value(x api.Rat) *big.Rat {
	num, den := sum(x.Num), sum(x.Den)
	if den.Sign() == 0 {
		den.SetInt64(1)
	}
	if x.Neg {
		num.Neg(num)
	}
	return new(big.Rat).SetFrac(num, den)
}

// list returns the words of a number that is not negative.
func list(n *big.Int) []uint32 {
	var words []uint32
	for rest := new(big.Int).Set(n); rest.Sign() > 0; rest.Rsh(rest, 32) {
		words = append(words, uint32(rest.Uint64()))
	}
	return words
}

// number returns the canonical value of v.
func number(v *big.Rat) api.Rat {
	x := api.Rat{Neg: v.Sign() < 0, Num: list(new(big.Int).Abs(v.Num()))}
	if !v.IsInt() {
		x.Den = list(v.Denom())
	}
	return x
}

// power returns 2^n.
func power(n int) *big.Int {
	return new(big.Int).Lsh(big.NewInt(1), uint(n))
}

// whole returns n as a number.
func whole(n *big.Int) api.Rat {
	return number(new(big.Rat).SetInt(n))
}

// part returns num / den as a number.
func part(num, den *big.Int) api.Rat {
	return number(new(big.Rat).SetFrac(num, den))
}

func small(a, b int64) api.Rat {
	return number(big.NewRat(a, b))
}

// same reports whether two values have the same fields, where nil and empty lists are the same.
func same(x, y api.Rat) bool {
	return x.Neg == y.Neg && sameList(x.Num, y.Num) && sameList(x.Den, y.Den)
}

func sameList(a, b []uint32) bool {
	return len(a) == 0 && len(b) == 0 || reflect.DeepEqual(a, b)
}

// copied returns a value with the same fields in new memory.
func copied(x api.Rat) api.Rat {
	return api.Rat{Neg: x.Neg, Num: append([]uint32{}, x.Num...), Den: append([]uint32{}, x.Den...)}
}

// isLarge reports whether a canonical number is large.
func isLarge(v *big.Rat) bool {
	limit := 32 * api.MaxWords
	return v.Num().BitLen() > limit || v.Denom().BitLen() > limit
}

// expect checks a number and an error against what they should be.
func expect(t *testing.T, what string, x api.Rat, err api.Errno, want *big.Rat) {
	t.Helper()
	if isLarge(want) {
		expectError(t, what, x, err, api.ErrSize)
		return
	}
	if err != api.OK || !same(x, number(want)) {
		t.Errorf("%s: %v, error %d, want %s", what, x, err, want.RatString())
	}
}

func expectError(t *testing.T, what string, x api.Rat, err, want api.Errno) {
	t.Helper()
	if err != want || !same(x, api.Rat{}) {
		t.Errorf("%s: %v, error %d, want error %d", what, x, err, want)
	}
}

// randomList returns words of which many are extreme, often with words 0 in front.
func randomList(r *rand.Rand, most int) []uint32 {
	words := make([]uint32, r.Intn(most+1))
	for i := range words {
		switch r.Intn(5) {
		case 0:
			words[i] = 0
		case 1:
			words[i] = 1<<32 - 1
		case 2:
			words[i] = uint32(r.Intn(8))
		default:
			words[i] = r.Uint32()
		}
	}
	return append(words, make([]uint32, r.Intn(3))...)
}

// randomNumber returns a value that is often not canonical.
func randomNumber(r *rand.Rand, most int) api.Rat {
	x := api.Rat{Neg: r.Intn(2) == 0, Num: randomList(r, most), Den: randomList(r, most)}
	if factor := randomList(r, 2); r.Intn(2) == 0 {
		x.Num = list(new(big.Int).Mul(sum(x.Num), sum(factor)))
		x.Den = list(new(big.Int).Mul(sum(x.Den), sum(factor)))
	}
	return x
}

// forms returns values that denote the same number as the canonical value x.
func forms(x api.Rat) []api.Rat {
	den := x.Den
	if len(den) == 0 {
		den = []uint32{1}
	}
	tripled := func(words []uint32) []uint32 {
		return list(new(big.Int).Mul(sum(words), big.NewInt(3)))
	}
	return []api.Rat{
		x,
		{Neg: x.Neg, Num: append(copied(x).Num, 0, 0), Den: append(copied(x).Den, 0)},
		{Neg: x.Neg, Num: x.Num, Den: den},
		{Neg: x.Neg, Num: tripled(x.Num), Den: tripled(den)},
		{Neg: x.Neg, Num: append([]uint32{0}, x.Num...), Den: append([]uint32{0}, den...)},
	}
}

// zeros returns values that denote 0.
func zeros() []api.Rat {
	return []api.Rat{
		{},
		{Neg: true},
		{Num: []uint32{}, Den: []uint32{}},
		{Num: []uint32{0, 0}, Den: []uint32{0}},
		{Neg: true, Num: []uint32{0}, Den: []uint32{7, 0}},
		{Den: []uint32{0, 0, 5}},
	}
}

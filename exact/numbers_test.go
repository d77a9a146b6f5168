package exact_test

import (
	"math"
	"math/big"
	"math/rand"
	"testing"

	"lidar/api"
	"lidar/exact"
)

// ints are integers around the limits of words and of int.
var ints = []int{0, 1, -1, 2, -2, 3, 6, -6, 10, 97, 1 << 31, -1 << 31, 1<<32 - 1, 1 << 32, 1<<32 + 1, -1 << 32, 3 << 40, api.MaxNum - 1, api.MaxNum, -api.MaxNum, math.MaxInt - 1, math.MaxInt, math.MinInt + 1, math.MinInt}

// P1.2
func TestCanon(t *testing.T) {
	cases := []struct{ x, want api.Rat }{
		{api.Rat{Num: []uint32{4}, Den: []uint32{6}}, api.Rat{Num: []uint32{2}, Den: []uint32{3}}},
		{api.Rat{Neg: true, Num: []uint32{4, 0, 0}, Den: []uint32{6, 0}}, api.Rat{Neg: true, Num: []uint32{2}, Den: []uint32{3}}},
		{api.Rat{Num: []uint32{5}}, api.Rat{Num: []uint32{5}}},
		{api.Rat{Num: []uint32{5}, Den: []uint32{0, 0, 0}}, api.Rat{Num: []uint32{5}}},
		{api.Rat{Num: []uint32{5}, Den: []uint32{1, 0}}, api.Rat{Num: []uint32{5}}},
		{api.Rat{Num: []uint32{12}, Den: []uint32{4}}, api.Rat{Num: []uint32{3}}},
		{api.Rat{Num: []uint32{0, 1}, Den: []uint32{0, 1}}, api.Rat{Num: []uint32{1}}},
		{api.Rat{Num: []uint32{0, 0, 6}, Den: []uint32{0, 9}}, api.Rat{Num: []uint32{0, 2}, Den: []uint32{3}}},
		{api.Rat{Num: []uint32{0, 0, 6}, Den: []uint32{0, 4}}, api.Rat{Num: []uint32{1 << 31, 1}}},
		{api.Rat{Num: []uint32{0, 1}, Den: []uint32{0, 0, 1}}, api.Rat{Num: []uint32{1}, Den: []uint32{0, 1}}},
	}
	for _, c := range cases {
		if got, err := exact.Canon(c.x); err != api.OK || !same(got, c.want) {
			t.Errorf("Canon(%v) = %v, error %d, want %v", c.x, got, err, c.want)
		}
	}
	for _, x := range zeros() {
		got, err := exact.Canon(x)
		expect(t, "Canon of 0", got, err, new(big.Rat))
	}
	r := rand.New(rand.NewSource(1))
	for range 2000 {
		x := randomNumber(r, 6)
		got, err := exact.Canon(x)
		expect(t, "Canon", got, err, value(x))
	}
}

// P1.2: numbers of many words, of which numerator and denominator have a large factor in common.
func TestCanonOfLongNumbers(t *testing.T) {
	r := rand.New(rand.NewSource(2))
	bound := power(32 * api.MaxWords / 2)
	random := func() *big.Int {
		return new(big.Int).Add(new(big.Int).Rand(r, bound), big.NewInt(1))
	}
	for range 50 {
		a, b, c := random(), random(), random()
		x := api.Rat{Num: list(new(big.Int).Mul(a, c)), Den: list(new(big.Int).Mul(b, c))}
		got, err := exact.Canon(x)
		expect(t, "Canon", got, err, new(big.Rat).SetFrac(a, b))
	}
}

// P1.2
func TestFromIntAndRatio(t *testing.T) {
	for _, a := range ints {
		expect(t, "FromInt", exact.FromInt(a), api.OK, new(big.Rat).SetInt64(int64(a)))
		for _, b := range ints {
			got, err := exact.Ratio(a, b)
			if b == 0 {
				expectError(t, "Ratio by 0", got, err, api.ErrZero)
			} else {
				expect(t, "Ratio", got, err, big.NewRat(int64(a), int64(b)))
			}
		}
	}
}

// numbers are numbers of many kinds, in ascending order.
func numbers() []api.Rat {
	top := new(big.Int).Sub(power(32*api.MaxWords), big.NewInt(1))
	long := part(top, new(big.Int).Sub(top, big.NewInt(2)))
	return []api.Rat{
		whole(new(big.Int).Neg(top)),
		whole(new(big.Int).Neg(power(64))),
		small(-7, 2), small(-10, 3), small(-1, 1), small(-1, 2), small(-1, 3),
		part(big.NewInt(-1), power(100)),
		{},
		part(big.NewInt(1), top),
		part(big.NewInt(1), power(8191)),
		small(1, 3), small(1, 2), small(2, 3), small(1, 1),
		long,
		small(10, 3), small(7, 2),
		whole(power(32)),
		whole(new(big.Int).Add(power(32), big.NewInt(1))),
		whole(power(64)),
		whole(new(big.Int).Sub(top, big.NewInt(1))),
		whole(top),
	}
}

// P1.3
func TestSignAndCmp(t *testing.T) {
	for i, x := range numbers() {
		for _, form := range forms(x) {
			if isWide(form) {
				continue
			}
			if s, err := exact.Sign(form); err != api.OK || s != value(x).Sign() {
				t.Errorf("Sign of number %d is %d, error %d", i, s, err)
			}
			for j, y := range numbers() {
				want := max(-1, min(1, i-j))
				if c, err := exact.Cmp(form, y); err != api.OK || c != want {
					t.Errorf("Cmp of the numbers %d and %d is %d, error %d", i, j, c, err)
				}
				if c, err := exact.Cmp(y, form); err != api.OK || c != -want {
					t.Errorf("Cmp of the numbers %d and %d is %d, error %d", j, i, c, err)
				}
			}
		}
	}
	for _, x := range zeros() {
		if s, err := exact.Sign(x); err != api.OK || s != 0 {
			t.Errorf("Sign(%v) is %d, error %d", x, s, err)
		}
		for _, y := range zeros() {
			if c, err := exact.Cmp(x, y); err != api.OK || c != 0 {
				t.Errorf("Cmp(%v, %v) is %d, error %d", x, y, c, err)
			}
		}
	}
}

// isWide reports whether a value has a list of more than MaxWords words, without words 0 in front.
func isWide(x api.Rat) bool {
	limit := 32 * api.MaxWords
	return sum(x.Num).BitLen() > limit || sum(x.Den).BitLen() > limit
}

// checkOperations checks all operations on x and y, which are not large.
func checkOperations(t *testing.T, x, y api.Rat) {
	t.Helper()
	v, w := value(x), value(y)
	got, err := exact.Neg(x)
	expect(t, "Neg", got, err, new(big.Rat).Neg(v))
	got, err = exact.Add(x, y)
	expect(t, "Add", got, err, new(big.Rat).Add(v, w))
	got, err = exact.Sub(x, y)
	expect(t, "Sub", got, err, new(big.Rat).Sub(v, w))
	got, err = exact.Mul(x, y)
	expect(t, "Mul", got, err, new(big.Rat).Mul(v, w))
	got, err = exact.Div(x, y)
	if w.Sign() == 0 {
		expectError(t, "Div by 0", got, err, api.ErrZero)
	} else {
		expect(t, "Div", got, err, new(big.Rat).Quo(v, w))
	}
	if c, err := exact.Cmp(x, y); err != api.OK || c != v.Cmp(w) {
		t.Errorf("Cmp(%v, %v) is %d, error %d", x, y, c, err)
	}
}

// P1.4
func TestOperations(t *testing.T) {
	list := append(numbers(), zeros()...)
	for _, x := range list {
		for _, y := range list {
			checkOperations(t, x, y)
		}
	}
	for _, x := range forms(small(-5, 6)) {
		for _, y := range forms(small(10, 9)) {
			checkOperations(t, x, y)
		}
	}
	r := rand.New(rand.NewSource(3))
	for range 1500 {
		checkOperations(t, randomNumber(r, 7), randomNumber(r, 7))
	}
}

// P1.5
func TestFloorAndCeil(t *testing.T) {
	check := func(x api.Rat) {
		t.Helper()
		v := value(x)
		floor := new(big.Int).Div(v.Num(), v.Denom())
		ceil := new(big.Int).Neg(new(big.Int).Div(new(big.Int).Neg(v.Num()), v.Denom()))
		n, err := exact.Floor(x)
		expectInt(t, "Floor of "+v.RatString(), n, err, floor)
		n, err = exact.Ceil(x)
		expectInt(t, "Ceil of "+v.RatString(), n, err, ceil)
	}
	for _, x := range append(numbers(), zeros()...) {
		check(x)
	}
	for _, x := range forms(small(-9, 3)) {
		check(x)
	}
	for num := int64(-12); num <= 12; num++ {
		for den := int64(1); den <= 5; den++ {
			check(small(num, den))
		}
	}
	for _, end := range []int64{-api.MaxNum, api.MaxNum} {
		for num := int64(-4); num <= 4; num++ {
			check(number(new(big.Rat).Add(big.NewRat(num, 2), big.NewRat(end, 1))))
		}
	}
	for _, n := range []uint{62, 63, 64, 65, 127, 128} {
		check(whole(power(int(n))))
		check(whole(new(big.Int).Neg(power(int(n)))))
		check(part(new(big.Int).Sub(power(int(n)), big.NewInt(1)), big.NewInt(2)))
	}
}

// expectInt checks an integer that may be beyond MaxNum.
func expectInt(t *testing.T, what string, n int, err api.Errno, want *big.Int) {
	t.Helper()
	if want.CmpAbs(big.NewInt(api.MaxNum)) > 0 {
		if n != 0 || err != api.ErrRange {
			t.Errorf("%s is %d, error %d, want ErrRange", what, n, err)
		}
	} else if err != api.OK || int64(n) != want.Int64() {
		t.Errorf("%s is %d, error %d, want %s", what, n, err, want)
	}
}

// P1.6
func TestText(t *testing.T) {
	check := func(x api.Rat, want string) {
		t.Helper()
		if s, err := exact.Text(x); err != api.OK || s != want {
			t.Errorf("Text is %q, error %d, want %q", s, err, want)
		}
	}
	check(small(-1, 2), "-1/2")
	check(small(30, 1), "30")
	check(small(-700, 1), "-700")
	check(small(100, 7), "100/7")
	check(api.Rat{Num: []uint32{4, 0}, Den: []uint32{6}}, "2/3")
	check(api.Rat{Neg: true, Num: []uint32{9}, Den: []uint32{3, 0}}, "-3")
	for _, x := range zeros() {
		check(x, "0")
	}
	ten := big.NewInt(10)
	for n := int64(0); n < 60; n++ {
		p := new(big.Int).Exp(ten, big.NewInt(n), nil)
		check(whole(p), p.String())
		less := new(big.Int).Sub(p, big.NewInt(1))
		check(whole(less), less.String())
		more := new(big.Int).Add(p, big.NewInt(1))
		check(part(new(big.Int).Neg(more), p), big.NewRat(0, 1).SetFrac(new(big.Int).Neg(more), p).RatString())
	}
	for _, x := range numbers() {
		check(x, value(x).RatString())
	}
}

// P1.7
func TestRoot(t *testing.T) {
	check := func(n int) {
		t.Helper()
		want := new(big.Int).Sqrt(big.NewInt(int64(n))).Int64()
		if r, err := exact.Root(n); err != api.OK || int64(r) != want {
			t.Errorf("Root(%d) is %d, error %d, want %d", n, r, err, want)
		}
	}
	for n := range 1100 {
		check(n)
	}
	for _, root := range []int{1 << 15, 1<<16 - 1, 1 << 16, 1<<26 + 1, 1<<30 - 1, 1 << 30, 1 << 31, 3037000498, 3037000499} {
		check(root*root - 1)
		check(root * root)
		check(root*root + 1)
	}
	for n := 1; n < math.MaxInt/3; n *= 3 {
		check(n)
	}
	check(math.MaxInt - 1)
	check(math.MaxInt)
	for _, n := range []int{-1, -4, math.MinInt} {
		if r, err := exact.Root(n); r != 0 || err != api.ErrArg {
			t.Errorf("Root(%d) is %d, error %d", n, r, err)
		}
	}
}

package exact_test

import (
	"math/big"
	"math/rand"
	"strconv"
	"testing"

	"lidar/api"
	"lidar/exact"
)

// longList returns a list of n words whose most significant word is 1, with words 0 in front of it.
func longList(n int) []uint32 {
	words := make([]uint32, n+3)
	words[n-1] = 1
	return words
}

// largeValues are values that are large as they are given, some of them for numbers that would not be.
func largeValues() []api.Rat {
	n := api.MaxWords + 1
	return []api.Rat{
		{Num: longList(n)},
		{Neg: true, Num: longList(n)},
		{Num: longList(5 * n)},
		{Num: []uint32{1}, Den: longList(n)},
		{Num: longList(n), Den: longList(n)},
		{Num: longList(n), Den: longList(n - 1)},
		{Den: longList(n)},
		{Neg: true, Num: []uint32{0}, Den: longList(n)},
	}
}

// calls are all calls of functions of numbers with x in one of their places and y in the other one. Each returns its error, and whether its results are zero.
func calls(x, y api.Rat) map[string]func() (api.Errno, bool) {
	all := map[string]func() (api.Errno, bool){
		"Canon": func() (api.Errno, bool) { z, err := exact.Canon(x); return err, same(z, api.Rat{}) },
		"Neg":   func() (api.Errno, bool) { z, err := exact.Neg(x); return err, same(z, api.Rat{}) },
		"Sign":  func() (api.Errno, bool) { n, err := exact.Sign(x); return err, n == 0 },
		"Floor": func() (api.Errno, bool) { n, err := exact.Floor(x); return err, n == 0 },
		"Ceil":  func() (api.Errno, bool) { n, err := exact.Ceil(x); return err, n == 0 },
		"Text":  func() (api.Errno, bool) { s, err := exact.Text(x); return err, s == "" },
	}
	for i, pair := range [][2]api.Rat{{x, y}, {y, x}} {
		place := " " + strconv.Itoa(i)
		for name, f := range map[string]func(x, y api.Rat) (api.Rat, api.Errno){"Add": exact.Add, "Sub": exact.Sub, "Mul": exact.Mul, "Div": exact.Div} {
			all[name+place] = func() (api.Errno, bool) { z, err := f(pair[0], pair[1]); return err, same(z, api.Rat{}) }
		}
		all["Cmp"+place] = func() (api.Errno, bool) { n, err := exact.Cmp(pair[0], pair[1]); return err, n == 0 }
		all["Cover"+place] = func() (api.Errno, bool) {
			s, err := exact.Cover(pair[0], pair[1])
			return err, s == api.Span{}
		}
	}
	return all
}

// P1.1: ErrSize comes before ErrZero and ErrRange.
func TestLargeArguments(t *testing.T) {
	others := []api.Rat{{}, small(1, 1), whole(power(100)), {Num: longList(api.MaxWords + 1)}}
	for i, x := range largeValues() {
		for _, y := range others {
			for name, call := range calls(x, y) {
				if err, zero := call(); err != api.ErrSize || !zero {
					t.Errorf("%s of large value %d: error %d, zero results %t", name, i, err, zero)
				}
			}
		}
	}
}

// P1.1: words 0 in front do not count, and MaxWords words are not large.
func TestLongestArguments(t *testing.T) {
	long := longList(api.MaxWords)
	for i, x := range []api.Rat{
		{Num: long},
		{Num: []uint32{1}, Den: long},
		{Num: long, Den: long},
		{Num: append([]uint32{5}, make([]uint32, 5000)...), Den: append([]uint32{3}, make([]uint32, 1<<20)...)},
		{Neg: true, Den: long},
	} {
		got, err := exact.Canon(x)
		expect(t, "Canon of long value "+strconv.Itoa(i), got, err, value(x))
		if _, err := exact.Sign(x); err != api.OK {
			t.Errorf("Sign of long value %d: error %d", i, err)
		}
		if c, err := exact.Cmp(x, x); err != api.OK || c != 0 {
			t.Errorf("Cmp of long value %d: %d, error %d", i, c, err)
		}
		checkOperations(t, x, x)
	}
}

// P1.1: a result is large exactly if its canonical value is.
func TestLargeResults(t *testing.T) {
	one := small(1, 1)
	half := 32 * api.MaxWords / 2
	top := whole(new(big.Int).Sub(power(2*half), big.NewInt(1)))
	under, _ := exact.Neg(top)
	middle, next := whole(power(half)), whole(power(half-1))
	inverse, _ := exact.Div(one, middle)
	odd := part(big.NewInt(1), new(big.Int).Add(power(half), big.NewInt(1)))
	third, _ := exact.Div(top, small(7, 1))
	for _, x := range []api.Rat{one, top, under, middle, next, inverse, odd, third, small(-1, 7)} {
		for _, y := range []api.Rat{one, top, under, middle, next, inverse, odd, third, small(-1, 7)} {
			checkOperations(t, x, y)
		}
	}
	if z, err := exact.Add(top, one); err != api.ErrSize || !same(z, api.Rat{}) {
		t.Errorf("the greatest number plus 1: %v, error %d", z, err)
	}
	if z, err := exact.Mul(middle, middle); err != api.ErrSize || !same(z, api.Rat{}) {
		t.Errorf("a product of %d words: %v, error %d", api.MaxWords+1, z, err)
	}
	if z, err := exact.Mul(middle, next); err != api.OK || !same(z, whole(power(2*half-1))) {
		t.Errorf("a product of %d words: %v, error %d", api.MaxWords, z, err)
	}
	if _, err := exact.Mul(inverse, inverse); err != api.ErrSize {
		t.Errorf("a product with a large denominator: error %d", err)
	}
}

// R5: what is formed on the way may be large.
func TestLargeOnTheWay(t *testing.T) {
	p := new(big.Int).Sub(power(32*api.MaxWords), big.NewInt(1))
	q := new(big.Int).Sub(p, big.NewInt(1))
	x, y := part(p, q), part(q, p)
	z, err := exact.Mul(x, y)
	expect(t, "Mul of inverses", z, err, big.NewRat(1, 1))
	z, err = exact.Sub(x, x)
	expect(t, "Sub of equals", z, err, new(big.Rat))
	z, err = exact.Div(y, y)
	expect(t, "Div of equals", z, err, big.NewRat(1, 1))
	if c, err := exact.Cmp(x, y); c != 1 || err != api.OK {
		t.Errorf("Cmp is %d, error %d", c, err)
	}
	if n, err := exact.Floor(x); n != 1 || err != api.OK {
		t.Errorf("Floor is %d, error %d", n, err)
	}
	if s, err := exact.Cover(x, y); s != (api.Span{Lo: 0, Hi: 2}) || err != api.OK {
		t.Errorf("Cover is %v, error %d", s, err)
	}
}

// R4: arguments do not change, and lists are read up to their length alone.
func TestArgumentsStay(t *testing.T) {
	r := rand.New(rand.NewSource(4))
	for range 100 {
		x, y := randomNumber(r, 5), randomNumber(r, 5)
		before, other := copied(x), copied(y)
		for name, call := range calls(x, y) {
			call()
			if !same(x, before) || !same(y, other) {
				t.Fatalf("%s changes an argument", name)
			}
		}
	}
	memory := []uint32{5, 9, 9}
	z, err := exact.Add(api.Rat{Num: memory[:1], Den: memory[1:1]}, api.Rat{Num: memory[:0]})
	expect(t, "Add", z, err, big.NewRat(5, 1))
	if !sameList(memory, []uint32{5, 9, 9}) {
		t.Errorf("the memory behind a list changes: %v", memory)
	}
	z, err = exact.Canon(api.Rat{Num: memory[:1], Den: memory[:1]})
	expect(t, "Canon with one list twice", z, err, big.NewRat(1, 1))
}

// R4: results are new memory.
func TestResultsAreNew(t *testing.T) {
	zero, one := api.Rat{}, api.Rat{Num: []uint32{1}}
	results := map[string]func(x api.Rat) (api.Rat, api.Errno){
		"Canon": exact.Canon,
		"Neg":   exact.Neg,
		"x + 0": func(x api.Rat) (api.Rat, api.Errno) { return exact.Add(x, zero) },
		"0 + x": func(x api.Rat) (api.Rat, api.Errno) { return exact.Add(zero, x) },
		"x - 0": func(x api.Rat) (api.Rat, api.Errno) { return exact.Sub(x, zero) },
		"0 - x": func(x api.Rat) (api.Rat, api.Errno) { return exact.Sub(zero, x) },
		"x * 1": func(x api.Rat) (api.Rat, api.Errno) { return exact.Mul(x, one) },
		"1 * x": func(x api.Rat) (api.Rat, api.Errno) { return exact.Mul(one, x) },
		"x / 1": func(x api.Rat) (api.Rat, api.Errno) { return exact.Div(x, one) },
		"1 / x": func(x api.Rat) (api.Rat, api.Errno) { return exact.Div(one, x) },
	}
	for name, f := range results {
		x := api.Rat{Num: []uint32{3, 4, 5}, Den: []uint32{2, 7}}
		first, err := f(x)
		if err != api.OK {
			t.Fatalf("%s: error %d", name, err)
		}
		kept := copied(first)
		second, _ := f(x)
		for _, words := range [][]uint32{x.Num, x.Den, second.Num, second.Den} {
			for i := range words {
				words[i] = 99
			}
		}
		if !same(first, kept) {
			t.Errorf("%s shares memory with an argument or with another result", name)
		}
	}
}

// P1.13: the laws of a field.
func TestFieldLaws(t *testing.T) {
	must := func(x api.Rat, err api.Errno) api.Rat {
		t.Helper()
		if err != api.OK {
			t.Fatalf("error %d", err)
		}
		return x
	}
	equal := func(law string, x, y api.Rat) {
		t.Helper()
		if !same(x, y) {
			t.Errorf("%s: %v and %v", law, x, y)
		}
	}
	r := rand.New(rand.NewSource(5))
	for range 400 {
		x, y, z := randomNumber(r, 4), randomNumber(r, 4), randomNumber(r, 4)
		canonical := must(exact.Canon(x))
		xy, yz, xz := must(exact.Add(x, y)), must(exact.Add(y, z)), must(exact.Mul(x, z))
		pxy, pyz := must(exact.Mul(x, y)), must(exact.Mul(y, z))
		equal("x + y = y + x", xy, must(exact.Add(y, x)))
		equal("(x + y) + z = x + (y + z)", must(exact.Add(xy, z)), must(exact.Add(x, yz)))
		equal("x * y = y * x", pxy, must(exact.Mul(y, x)))
		equal("(x * y) * z = x * (y * z)", must(exact.Mul(pxy, z)), must(exact.Mul(x, pyz)))
		equal("x * (y + z) = x * y + x * z", must(exact.Mul(x, yz)), must(exact.Add(pxy, xz)))
		equal("(x + y) - y = x", must(exact.Sub(xy, y)), canonical)
		equal("x + -x = 0", must(exact.Add(x, must(exact.Neg(x)))), api.Rat{})
		difference := must(exact.Sub(x, y))
		sign, _ := exact.Sign(difference)
		if c, err := exact.Cmp(x, y); err != api.OK || c != sign {
			t.Errorf("Cmp is %d, error %d, the sign of the difference is %d", c, err, sign)
		}
		if zero, _ := exact.Sign(y); zero != 0 {
			equal("x * y / y = x", must(exact.Div(pxy, y)), canonical)
		}
	}
}

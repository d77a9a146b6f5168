package fraction

import (
	"math"
	"math/big"
	"math/rand"
	"testing"

	"lidar/api"
)

// natural returns the number of the words.
func natural(x whole) *big.Int {
	total := new(big.Int)
	for i := len(x) - 1; i >= 0; i-- {
		total.Lsh(total, 64)
		total.Add(total, new(big.Int).SetUint64(x[i]))
	}
	return total
}

// fromBig returns a natural number as words.
func fromBig(n *big.Int) whole {
	var x whole
	for rest := new(big.Int).Set(n); rest.Sign() > 0; rest.Rsh(rest, 64) {
		x = append(x, new(big.Int).And(rest, new(big.Int).SetUint64(math.MaxUint64)).Uint64())
	}
	return x
}

// randomWhole returns a number of at most so many words, of which many are extreme.
func randomWhole(r *rand.Rand, most int) whole {
	x := make(whole, r.Intn(most+1))
	for i := range x {
		switch r.Intn(6) {
		case 0:
			x[i] = 0
		case 1:
			x[i] = math.MaxUint64
		case 2:
			x[i] = 1 << r.Intn(64)
		case 3:
			x[i] = -(1 << r.Intn(64))
		default:
			x[i] = r.Uint64()
		}
	}
	return trim(x)
}

func expectWhole(t *testing.T, what string, got whole, want *big.Int) {
	t.Helper()
	if natural(got).Cmp(want) != 0 {
		t.Errorf("%s: %v, want %s", what, got, want)
	}
	if Words(got) != len(got) {
		t.Errorf("%s: %v has a most significant word 0", what, got)
	}
}

func TestWholeNumbers(t *testing.T) {
	r := rand.New(rand.NewSource(1))
	for range 20000 {
		x, y := randomWhole(r, 6), randomWhole(r, 4)
		v, w := natural(x), natural(y)
		expectWhole(t, "plus", plus(x, y), new(big.Int).Add(v, w))
		expectWhole(t, "times", times(x, y), new(big.Int).Mul(v, w))
		if c := compare(x, y); c != v.Cmp(w) {
			t.Errorf("compare(%v, %v) is %d", x, y, c)
		}
		if compare(x, y) >= 0 {
			expectWhole(t, "minus", minus(x, y), new(big.Int).Sub(v, w))
		}
		if len(y) > 0 {
			quotient, rest := divide(x, y)
			q, m := new(big.Int).DivMod(v, w, new(big.Int))
			expectWhole(t, "quotient", quotient, q)
			expectWhole(t, "remainder", rest, m)
		}
		expectWhole(t, "divisor", commonDivisor(x, y), new(big.Int).GCD(nil, nil, v, w))
		expectWhole(t, "packed", pack(unpack(x)), v)
		if s := decimal(x); s != v.String() {
			t.Errorf("decimal of %s is %s", v, s)
		}
		if natural(x).Cmp(v) != 0 || natural(y).Cmp(w) != 0 {
			t.Fatalf("an operation changes its argument")
		}
	}
}

// A digit of a quotient that is estimated from the first words may be too great by 0, 1 or 2.
func TestDigitsThatAreEstimatedTooGreat(t *testing.T) {
	top := uint64(1) << 63
	for _, y := range []whole{{math.MaxUint64, top}, {0, top}, {math.MaxUint64, math.MaxUint64, top}, {0, 0, top}, {1, math.MaxUint64}} {
		for _, q := range []whole{{1}, {math.MaxUint64}, {math.MaxUint64, math.MaxUint64}, {0, 1}, {top, top}} {
			for _, less := range []uint64{0, 1, 2} {
				x := minus(plus(times(y, q), y), single(less))
				quotient, rest := divide(x, y)
				want, m := new(big.Int).DivMod(natural(x), natural(y), new(big.Int))
				expectWhole(t, "quotient", quotient, want)
				expectWhole(t, "remainder", rest, m)
			}
		}
	}
}

func TestCommonDivisorOfLongNumbers(t *testing.T) {
	r := rand.New(rand.NewSource(2))
	check := func(x, y *big.Int) {
		t.Helper()
		expectWhole(t, "divisor", commonDivisor(fromBig(x), fromBig(y)), new(big.Int).GCD(nil, nil, x, y))
	}
	for _, size := range []uint{65, 127, 128, 129, 500, 4000} {
		bound := new(big.Int).Lsh(big.NewInt(1), size)
		for range 40 {
			a, b, c := new(big.Int).Rand(r, bound), new(big.Int).Rand(r, bound), new(big.Int).Rand(r, bound)
			check(a, b)
			check(new(big.Int).Mul(a, c), new(big.Int).Mul(b, c))
			check(new(big.Int).Mul(a, b), b)
			check(a, new(big.Int).Add(a, big.NewInt(1)))
		}
	}
	// Consecutive Fibonacci numbers need the most steps; all their quotients are 1.
	a, b := big.NewInt(1), big.NewInt(1)
	for range 1000 {
		a, b = b, new(big.Int).Add(a, b)
		check(a, b)
		check(new(big.Int).Lsh(a, 200), b)
	}
}

// value returns a fraction in the words of the library.
func value(x Fraction) *big.Rat {
	v := new(big.Rat).SetInt(natural(x.num))
	if len(x.den) > 0 {
		v.SetFrac(natural(x.num), natural(x.den))
	}
	if x.neg {
		v.Neg(v)
	}
	return v
}

func expectFraction(t *testing.T, what string, got Fraction, want *big.Rat) {
	t.Helper()
	if value(got).Cmp(want) != 0 {
		t.Errorf("%s: %s, want %s", what, value(got).RatString(), want.RatString())
	}
	den := big.NewInt(1)
	if len(got.den) > 0 {
		den = natural(got.den)
	}
	if natural(got.num).CmpAbs(want.Num()) != 0 || den.Cmp(want.Denom()) != 0 || len(got.den) == 1 && got.den[0] == 1 || got.neg && len(got.num) == 0 {
		t.Errorf("%s: %v is not in lowest terms", what, got)
	}
}

func randomFraction(r *rand.Rand, most int) Fraction {
	return reduced(r.Intn(2) == 0, randomWhole(r, most), plus(randomWhole(r, most), single(1)))
}

func TestFractions(t *testing.T) {
	r := rand.New(rand.NewSource(3))
	for i := range 3000 {
		most := 3
		if i < 30 {
			most = 700 // beyond the limit of layer 1
		}
		x, y := randomFraction(r, most), randomFraction(r, most)
		v, w := value(x), value(y)
		expectFraction(t, "Add", x.Add(y), new(big.Rat).Add(v, w))
		expectFraction(t, "Sub", x.Sub(y), new(big.Rat).Sub(v, w))
		expectFraction(t, "Mul", x.Mul(y), new(big.Rat).Mul(v, w))
		expectFraction(t, "Neg", x.Neg(), new(big.Rat).Neg(v))
		expectFraction(t, "Rat", FromRat(x.Rat()), v)
		floor := new(big.Int).Div(v.Num(), v.Denom())
		expectFraction(t, "Floor", x.Floor(), new(big.Rat).SetInt(floor))
		ceil := new(big.Int).Neg(new(big.Int).Div(new(big.Int).Neg(v.Num()), v.Denom()))
		expectFraction(t, "Ceil", x.Ceil(), new(big.Rat).SetInt(ceil))
		if quotient, ok := x.Div(y); ok {
			expectFraction(t, "Div", quotient, new(big.Rat).Quo(v, w))
		} else if w.Sign() != 0 {
			t.Errorf("Div by %s has no value", w)
		}
		if x.Cmp(y) != v.Cmp(w) || x.Cmp(x) != 0 || x.Sign() != v.Sign() {
			t.Errorf("Cmp of %s and %s is %d, Sign %d", v, w, x.Cmp(y), x.Sign())
		}
		if x.Text() != v.RatString() {
			t.Errorf("Text of %s is %s", v, x.Text())
		}
	}
}

func TestCommon(t *testing.T) {
	r := rand.New(rand.NewSource(4))
	for range 1000 {
		list, least := make([]Fraction, r.Intn(5)), big.NewInt(1)
		for i := range list {
			list[i] = randomFraction(r, 2)
			den := value(list[i]).Denom()
			least.Mul(least, new(big.Int).Div(den, new(big.Int).GCD(nil, nil, least, den)))
		}
		numerators, den := Common(list)
		expectFraction(t, "common denominator", den, new(big.Rat).SetInt(least))
		if len(numerators) != len(list) {
			t.Fatalf("%d numerators of %d numbers", len(numerators), len(list))
		}
		for i, x := range list {
			expectFraction(t, "numerator", numerators[i], new(big.Rat).Mul(value(x), value(den)))
		}
	}
}

func TestDivByZero(t *testing.T) {
	for _, x := range []Fraction{{}, FromInt(3), FromInt(-3)} {
		if q, ok := x.Div(Fraction{}); ok || q.Sign() != 0 {
			t.Errorf("%s / 0 has the value %s", x.Text(), q.Text())
		}
	}
}

func TestInts(t *testing.T) {
	for _, n := range []int{0, 1, -1, 1 << 40, math.MaxInt, math.MinInt, math.MinInt + 1} {
		x := FromInt(n)
		if got, ok := x.Int(); !ok || got != n {
			t.Errorf("Int of %d is %d, %t", n, got, ok)
		}
		if n != 0 && (x.Sign() > 0) != (n > 0) {
			t.Errorf("Sign of %d is %d", n, x.Sign())
		}
	}
	one := FromInt(1)
	half, _ := one.Div(FromInt(2))
	for _, x := range []Fraction{half, half.Neg(), FromInt(math.MaxInt).Add(one), FromInt(math.MinInt).Sub(one), FromInt(math.MinInt).Mul(FromInt(math.MinInt))} {
		if got, ok := x.Int(); ok || got != 0 {
			t.Errorf("Int of %s is %d, %t", x.Text(), got, ok)
		}
	}
}

// What comes from a value and what goes into one shares no memory with it.
func TestRatsAreNew(t *testing.T) {
	list := []uint32{2, 4}
	x := FromRat(api.Rat{Num: list, Den: []uint32{7}})
	list[0] = 5
	first := x.Rat()
	first.Num[0] = 7
	if second := x.Rat(); second.Num[0] != 2 {
		t.Errorf("the number changes to %v", second)
	}
}

package strip_test

import (
	"math/big"
	"math/bits"
	"math/rand"
	"reflect"
	"testing"

	"lidar/api"
	"lidar/exact"
	"lidar/strip"
)

// extremes are integers that lie below or above every limit of this layer.
var extremes = []int{-1 << 63, -1<<63 + 1, -1 << 62, -1 << 39, 1 << 39, 1 << 62, 1<<63 - 1}

// outside returns numbers outside of lo to hi.
func outside(lo, hi int) []int {
	return append([]int{lo - 1, hi + 1}, extremes...)
}

// up returns a vertical match.
func up(a, b, d, w int) api.Match {
	return tied(a, b, [3]int{0, 0, 1}, d, w)
}

func tied(a, b int, normal [3]int, d, w int) api.Match {
	return api.Match{A: a, B: b, Normal: normal, D: d, W: w}
}

func problem(strips int, matches ...api.Match) api.Problem {
	return api.Problem{Strips: strips, Matches: matches}
}

// power returns 2^n.
func power(n uint) *big.Int {
	return new(big.Int).Lsh(big.NewInt(1), n)
}

func whole(n int) *big.Rat {
	return new(big.Rat).SetInt64(int64(n))
}

func plus(x, y *big.Rat) *big.Rat {
	return new(big.Rat).Add(x, y)
}

func times(x, y *big.Rat) *big.Rat {
	return new(big.Rat).Mul(x, y)
}

// words returns the words of a number that is not negative.
func words(n *big.Int) []uint32 {
	var list []uint32
	for rest := new(big.Int).Set(n); rest.Sign() > 0; rest.Rsh(rest, 32) {
		list = append(list, uint32(rest.Uint64()))
	}
	return list
}

// number returns the canonical value of v.
func number(v *big.Rat) api.Rat {
	x := api.Rat{Neg: v.Sign() < 0, Num: words(new(big.Int).Abs(v.Num()))}
	if !v.IsInt() {
		x.Den = words(v.Denom())
	}
	return x
}

// isNumber reports whether x is the canonical value of v, where nil and empty lists are the same.
func isNumber(x api.Rat, v *big.Rat) bool {
	want := number(v)
	for _, l := range []*[]uint32{&x.Num, &x.Den, &want.Num, &want.Den} {
		*l = append([]uint32{}, *l...)
	}
	return reflect.DeepEqual(x, want)
}

// value returns the number that x denotes.
func value(t *testing.T, x api.Rat) *big.Rat {
	t.Helper()
	text, err := exact.Text(x)
	v, ok := new(big.Rat).SetString(text)
	if err != api.OK || !ok {
		t.Fatalf("%v has the text %s, error %d", x, text, err)
	}
	return v
}

func expect(t *testing.T, what string, x api.Rat, err api.Errno, want *big.Rat) {
	t.Helper()
	if err != api.OK || !isNumber(x, want) {
		t.Errorf("%s: %v, error %d, want %s", what, x, err, want.RatString())
	}
}

// isZero reports whether a result has no value: lists may be nil or empty.
func isZero(x any) bool {
	v := reflect.ValueOf(x)
	return v.IsZero() || v.Kind() == reflect.Slice && v.Len() == 0
}

// place is a list of all unknowns.
type place []*big.Rat

func nowhere(strips int) place {
	p := make(place, 3*strips)
	for i := range p {
		p[i] = new(big.Rat)
	}
	return p
}

// shifts returns the unknowns as an argument.
func (p place) shifts() [][3]api.Rat {
	t := make([][3]api.Rat, len(p)/3)
	for i, v := range p {
		t[i/3][i%3] = number(v)
	}
	return t
}

// placeOf returns the unknowns of shifts.
func placeOf(t *testing.T, shifts [][3]api.Rat) place {
	t.Helper()
	var p place
	for _, s := range shifts {
		for _, x := range s {
			p = append(p, value(t, x))
		}
	}
	return p
}

func expectPlace(t *testing.T, what string, shifts [][3]api.Rat, err api.Errno, want place) {
	t.Helper()
	if err != api.OK || len(shifts) != len(want)/3 {
		t.Fatalf("%s: %d shifts, error %d", what, len(shifts), err)
	}
	for i, v := range want {
		expect(t, what, shifts[i/3][i%3], err, v)
	}
}

// coefficient returns by how much an unknown is multiplied in the residual of a match.
func coefficient(m api.Match, unknown int) int {
	switch unknown / 3 {
	case m.A:
		return m.Normal[unknown%3]
	case m.B:
		return -m.Normal[unknown%3]
	}
	return 0
}

func (p place) residual(m api.Match) *big.Rat {
	sum := whole(m.D)
	for i, v := range p {
		sum = plus(sum, times(whole(coefficient(m, i)), v))
	}
	return sum
}

func (p place) product(m api.Match) *big.Rat {
	r := p.residual(m)
	return times(whole(m.W), times(r, r))
}

func (p place) misfit(matches []api.Match) *big.Rat {
	sum := new(big.Rat)
	for _, m := range matches {
		sum = plus(sum, p.product(m))
	}
	return sum
}

func (p place) slope(matches []api.Match, unknown int) *big.Rat {
	sum := new(big.Rat)
	for _, m := range matches {
		sum = plus(sum, times(whole(m.W*coefficient(m, unknown)), p.residual(m)))
	}
	return sum
}

// randomBelow returns numbers from -most to most of all sizes.
func randomBelow(r *rand.Rand, most int) int {
	size := r.Intn(most+1) >> r.Intn(bits.Len(uint(most))+1)
	return size * (1 - 2*r.Intn(2))
}

// randomMatch returns a match of these strips. Small normals make unknowns that depend on others, and equal products.
func randomMatch(r *rand.Rand, strips, normal, d int) api.Match {
	m := api.Match{A: r.Intn(strips), B: -1, D: randomBelow(r, d), W: 1 + r.Intn(1000)>>r.Intn(10)}
	if other := r.Intn(strips); other != m.A && r.Intn(4) > 0 {
		m.B = other
	}
	for m.Normal == [3]int{} {
		for k := range m.Normal {
			m.Normal[k] = r.Intn(2*normal+1) - normal
		}
	}
	return m
}

func randomProblem(r *rand.Rand) api.Problem {
	p := api.Problem{Strips: 1 + r.Intn(4)}
	normal, d := []int{1, 1, 2, 100}[r.Intn(4)], []int{2, 20, 1 << 38}[r.Intn(3)]
	for range r.Intn(12) {
		p.Matches = append(p.Matches, randomMatch(r, p.Strips, normal, d))
	}
	return p
}

func randomPlace(r *rand.Rand, strips int) place {
	p := nowhere(strips)
	for _, v := range p {
		if r.Intn(3) > 0 {
			v.SetFrac64(int64(randomBelow(r, 1<<40)), 1+int64(r.Intn(1<<20)>>r.Intn(21)))
		}
	}
	return p
}

// fullProblem is a problem at the limits.
func fullProblem(r *rand.Rand) api.Problem {
	p := api.Problem{Strips: 8}
	for range 64 {
		m := randomMatch(r, 8, 100, 1)
		m.W = 900 + r.Intn(101)
		m.D = (1<<38 - r.Intn(100)) * (1 - 2*r.Intn(2))
		p.Matches = append(p.Matches, m)
	}
	return p
}

func solved(t *testing.T, p api.Problem) [][3]api.Rat {
	t.Helper()
	s, err := strip.Solve(p)
	if err != api.OK {
		t.Fatalf("Solve of %v: error %d", p, err)
	}
	return s
}

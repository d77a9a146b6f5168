package track_test

import (
	"math/big"
	"math/rand"
	"testing"

	"lidar/api"
	"lidar/track"
)

// extremes are integers that lie below or above every limit of this layer.
var extremes = []int{-1 << 63, -1<<63 + 1, -1 << 62, -1 << 61, -1 << 51, 1 << 51, 1 << 61, 1 << 62, 1<<63 - 2, 1<<63 - 1}

var (
	unturned = [4]int{1, 0, 0, 0}
	easy     = api.Fix{Time: 5, Pos: [3]int{7, -8, 9}, Err: 10, Quat: [4]int{11, -12, 13, -14}, Tilt: 15}
	met      = api.Sync{Scan: 100, Nav: 600, Err: 5}
	rules    = api.Motion{Gap: 1000, Speed: 2000, Accel: 3000, Rate: 4000}
)

func fixAt(time, x, err int) api.Fix {
	return api.Fix{Time: time, Pos: [3]int{x, 0, 0}, Err: err, Quat: unturned}
}

// changed returns copies of a value, each changed with one of the numbers.
func changed[T any](value T, change func(*T, int), numbers ...int) []T {
	var list []T
	for _, n := range numbers {
		other := value
		change(&other, n)
		list = append(list, other)
	}
	return list
}

// beyond returns numbers outside of lo to hi.
func beyond(lo, hi int) []int {
	return append([]int{lo - 1, hi + 1}, extremes...)
}

// fixesWith returns fixes with one field changed to each of the numbers that a function gives for its limits.
func fixesWith(numbers func(lo, hi int) []int) []api.Fix {
	list := changed(easy, func(f *api.Fix, n int) { f.Time = n }, numbers(0, 1<<50)...)
	for i := range 3 {
		list = append(list, changed(easy, func(f *api.Fix, n int) { f.Pos[i] = n }, numbers(-1<<27, 1<<27)...)...)
	}
	list = append(list, changed(easy, func(f *api.Fix, n int) { f.Err = n }, numbers(0, 100000)...)...)
	for i := range 4 {
		list = append(list, changed(easy, func(f *api.Fix, n int) { f.Quat[i] = n }, numbers(-1000, 1000)...)...)
	}
	return append(list, changed(easy, func(f *api.Fix, n int) { f.Tilt = n }, numbers(0, 1000000)...)...)
}

func ends(lo, hi int) []int {
	return []int{lo, hi}
}

// goodFixes are fixes at the limits.
func goodFixes() []api.Fix {
	list := append(fixesWith(ends), easy, fixAt(0, 0, 0), api.Fix{Time: 1 << 50, Pos: [3]int{1 << 27, -1 << 27, 1 << 27}, Err: 100000, Quat: [4]int{-1000, 1000, -1000, 1000}, Tilt: 1000000})
	for i := range 4 {
		list = append(list, changed(easy, func(f *api.Fix, n int) { f.Quat = [4]int{}; f.Quat[i] = n }, -1000, -1, 1, 1000)...)
	}
	return list
}

// badFixes are fixes that are not valid, each for one reason.
func badFixes() []api.Fix {
	return append(fixesWith(beyond), api.Fix{}, api.Fix{Time: 5, Pos: easy.Pos, Err: 10, Tilt: 15})
}

func syncsWith(numbers func(lo, hi int) []int) []api.Sync {
	list := changed(met, func(s *api.Sync, n int) { s.Scan = n }, numbers(0, 1<<50)...)
	list = append(list, changed(met, func(s *api.Sync, n int) { s.Nav = n }, numbers(0, 1<<50)...)...)
	return append(list, changed(met, func(s *api.Sync, n int) { s.Err = n }, numbers(0, 100000)...)...)
}

func goodSyncs() []api.Sync {
	return append(syncsWith(ends), met, api.Sync{}, api.Sync{Scan: 1 << 50, Nav: 1 << 50, Err: 100000}, api.Sync{Scan: 1 << 50, Err: 100000}, api.Sync{Nav: 1 << 50, Err: 100000})
}

func badSyncs() []api.Sync {
	return syncsWith(beyond)
}

func rulesWith(numbers func(lo, hi int) []int) []api.Motion {
	list := changed(rules, func(m *api.Motion, n int) { m.Gap = n }, numbers(1, 10000000)...)
	list = append(list, changed(rules, func(m *api.Motion, n int) { m.Speed = n }, numbers(0, 1000000)...)...)
	list = append(list, changed(rules, func(m *api.Motion, n int) { m.Accel = n }, numbers(0, 100000)...)...)
	return append(list, changed(rules, func(m *api.Motion, n int) { m.Rate = n }, numbers(0, 10000000)...)...)
}

func goodRules() []api.Motion {
	return append(rulesWith(ends), rules, api.Motion{Gap: 1}, api.Motion{Gap: 10000000, Speed: 1000000, Accel: 100000, Rate: 10000000})
}

func badRules() []api.Motion {
	return append(rulesWith(beyond), api.Motion{})
}

// randomBelow returns numbers from -most to most of all sizes.
func randomBelow(r *rand.Rand, most int) int {
	size := r.Intn(most+1) >> r.Intn(30)
	return size * (1 - 2*r.Intn(2))
}

func randomTurn(r *rand.Rand) [4]int {
	q := unturned
	for i := range q {
		q[i] = randomBelow(r, 1000)
	}
	if q == [4]int{} {
		return unturned
	}
	return q
}

func randomFix(r *rand.Rand) api.Fix {
	f := api.Fix{Time: r.Intn(1<<50+1) >> r.Intn(51), Err: r.Intn(100001) >> r.Intn(18), Quat: randomTurn(r), Tilt: r.Intn(1000001) >> r.Intn(21)}
	for i := range f.Pos {
		f.Pos[i] = randomBelow(r, 1<<27)
	}
	return f
}

func randomRules(r *rand.Rand) api.Motion {
	return api.Motion{Gap: 1 + r.Intn(10000000)>>r.Intn(24), Speed: r.Intn(1000001) >> r.Intn(21), Accel: r.Intn(100001) >> r.Intn(18), Rate: r.Intn(10000001) >> r.Intn(25)}
}

// allLists calls use with all lists of at most longest elements from 0 to greatest.
func allLists(longest, greatest int, use func(list []int)) {
	var extend func(list []int)
	extend = func(list []int) {
		use(list)
		for n := 0; n <= greatest && len(list) < longest; n++ {
			extend(append(list[:len(list):len(list)], n))
		}
	}
	extend(nil)
}

// partsOf returns the track of fixes that have one.
func partsOf(t *testing.T, m api.Motion, fixes ...api.Fix) api.Track {
	t.Helper()
	tr, err := track.Parts(fixes, m)
	if err != api.OK {
		t.Fatalf("Parts of %v: error %d", fixes, err)
	}
	return tr
}

// ratio returns a / b without rounding.
func ratio(a, b int) *big.Rat {
	return big.NewRat(int64(a), int64(b))
}

func whole(n int) *big.Rat {
	return ratio(n, 1)
}

func plus(x, y *big.Rat) *big.Rat {
	return new(big.Rat).Add(x, y)
}

func times(x, y *big.Rat) *big.Rat {
	return new(big.Rat).Mul(x, y)
}

func floor(x *big.Rat) int {
	return int(new(big.Int).Div(x.Num(), x.Denom()).Int64()) // the denominator is positive
}

func ceil(x *big.Rat) int {
	return -floor(new(big.Rat).Neg(x))
}

func contains(s api.Span, x *big.Rat) bool {
	return whole(s.Lo).Cmp(x) <= 0 && x.Cmp(whole(s.Hi)) <= 0
}

// millionth returns a * n / 10^6, rounded up.
func millionth(a, n int) int {
	return ceil(times(whole(a), ratio(n, 1000000)))
}

// wider returns s with both ends moved outward.
func wider(s api.Span, far int) api.Span {
	return api.Span{Lo: s.Lo - far, Hi: s.Hi + far}
}

package model_test

import (
	"math/big"
	"math/rand"
	"testing"

	"lidar/api"
	"lidar/exact"
	"lidar/model"
)

// value returns the integer that a number is.
func value(t *testing.T, x api.Rat) *big.Int {
	t.Helper()
	text, _ := exact.Text(x)
	n, ok := new(big.Int).SetString(text, 10)
	if !ok {
		t.Fatalf("%v has the text %s", x, text)
	}
	return n
}

// known returns the nodes that are void in neither grid.
func known(a, b api.Grid) []int {
	var list []int
	for i := range a.Cells {
		if !a.Cells[i].Void && !b.Cells[i].Void {
			list = append(list, i)
		}
	}
	return list
}

// P9.8, P9.11
func TestAmount(t *testing.T) {
	r := rand.New(rand.NewSource(51))
	for range 500 {
		a, b := randomPair(r)
		nodes := known(a, b)
		r.Shuffle(len(nodes), func(i, j int) { nodes[i], nodes[j] = nodes[j], nodes[i] })
		nodes = nodes[:r.Intn(len(nodes)+1)]
		low, high := new(big.Int), new(big.Int)
		for _, i := range nodes {
			low.Add(low, over(a.Raster, b.Cells[i].Z.Lo-a.Cells[i].Z.Hi))
			high.Add(high, over(a.Raster, b.Cells[i].Z.Hi-a.Cells[i].Z.Lo))
		}
		lo, hi := amount(t, a, b, nodes)
		if !isNumber(lo, low) || !isNumber(hi, high) {
			t.Fatalf("Amount of %v and %v at %v: %v and %v, not %v and %v", a, b, nodes, lo, hi, low, high)
		}
		lo, hi = amount(t, b, a, nodes)
		if !isNumber(lo, high.Neg(high)) || !isNumber(hi, low.Neg(low)) {
			t.Fatalf("Amount of %v and %v at %v: %v and %v, not %v and %v", b, a, nodes, lo, hi, high, low)
		}
	}
}

// P9.8, R5: the greatest amounts do not fit into 64 bits.
func TestGreatAmounts(t *testing.T) {
	f := api.Raster{X0: -limit, Y0: -limit, Step: mostStep, NX: 64, NY: 64}
	a, b := full(f, cell(-limit, -limit)), full(f, cell(limit-1, limit))
	all := known(a, b)
	low, _ := new(big.Int).SetString("2199023251456000000000000", 10) // 4096 * 10^12 * (2^29 - 1)
	high, _ := new(big.Int).SetString("2199023255552000000000000", 10)
	if lo, hi := amount(t, a, b, all); !isNumber(lo, low) || !isNumber(hi, high) {
		t.Errorf("Amount: %v and %v", lo, hi)
	}
	if lo, hi, err := model.Cut(b, -limit); err != api.OK || !isNumber(lo, low) || !isNumber(hi, high) {
		t.Errorf("Cut: %v and %v, error %d", lo, hi, err)
	}
	if lo, hi, err := model.Cut(a, limit); err != api.OK || !isNumber(lo, high.Neg(high)) || !isNumber(hi, high) {
		t.Errorf("Cut: %v and %v, error %d", lo, hi, err)
	}
}

// P9.8: the example, no nodes, and nodes that may not be asked for.
func TestNodesOfAmount(t *testing.T) {
	a, b := row(cell(0, 1), void, cell(2, 2), cell(4, 4)), row(cell(5, 7), cell(0, 0), void, cell(4, 4))
	lo, hi := amount(t, a, b, []int{0})
	if !isNumber(lo, big.NewInt(400)) || !isNumber(hi, big.NewInt(700)) {
		t.Errorf("Amount: %v and %v", lo, hi)
	}
	if lo, hi := amount(t, a, b, nil); !isZero(lo) || !isZero(hi) {
		t.Errorf("Amount of no nodes: %v and %v", lo, hi)
	}
	if lo, hi := amount(t, a, b, []int{3}); !isZero(lo) || !isZero(hi) {
		t.Errorf("Amount without a change: %v and %v", lo, hi)
	}
	many := make([]int, 5000)
	for _, c := range []struct {
		nodes []int
		want  api.Errno
	}{
		{[]int{0, 0}, api.ErrArg}, {[]int{0, 3, 0}, api.ErrArg}, {[]int{1}, api.ErrArg}, {[]int{2}, api.ErrArg}, {[]int{0, 1}, api.ErrArg}, {many, api.ErrArg},
		{[]int{-1}, api.ErrNode}, {[]int{4}, api.ErrNode}, {[]int{1, 4}, api.ErrNode}, {[]int{0, 0, -1 << 63}, api.ErrNode}, {append(many, 1<<63-1), api.ErrNode}, {[]int{5, 5}, api.ErrNode},
	} {
		if lo, hi, err := model.Amount(a, b, c.nodes); err != c.want || !isZero(lo) || !isZero(hi) {
			t.Errorf("Amount at %v: %v and %v, error %d, not %d", c.nodes, lo, hi, err, c.want)
		}
	}
}

// P9.8
func TestCut(t *testing.T) {
	r := rand.New(rand.NewSource(52))
	for range 500 {
		g := randomGrid(r, randomRaster(r))
		base := []int{0, 2, limit, -limit, r.Intn(2*limit+1) - limit}[r.Intn(5)]
		low, high := new(big.Int), new(big.Int)
		for _, c := range g.Cells {
			if !c.Void {
				low.Add(low, over(g.Raster, c.Z.Lo-base))
				high.Add(high, over(g.Raster, c.Z.Hi-base))
			}
		}
		if lo, hi, err := model.Cut(g, base); err != api.OK || !isNumber(lo, low) || !isNumber(hi, high) {
			t.Fatalf("Cut of %v at %d: %v and %v, error %d, not %v and %v", g, base, lo, hi, err, low, high)
		}
	}
	for _, base := range []int{-limit - 1, limit + 1, -1 << 63, 1<<63 - 1} {
		if lo, hi, err := model.Cut(row(cell(1, 2)), base); err != api.ErrArg || !isZero(lo) || !isZero(hi) {
			t.Errorf("Cut at %d: %v and %v, error %d", base, lo, hi, err)
		}
	}
}

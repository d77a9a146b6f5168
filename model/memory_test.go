package model_test

import (
	"bytes"
	"math/rand"
	"slices"
	"testing"

	"lidar/api"
	"lidar/model"
)

// behind returns a list with more in the memory behind it, and all of it.
func behind[T any](list []T, more ...T) (short, all []T) {
	all = append(slices.Clip(list), more...)
	return all[:len(list)], all
}

// gridBehind returns a grid with bad cells in the memory behind its cells, and all of them.
func gridBehind(g api.Grid) (api.Grid, []api.Cell) {
	short, all := behind(g.Cells, cell(1, 0), void, cell(5, 5))
	return api.Grid{Raster: g.Raster, Cells: short}, all
}

// R4: arguments stay as they are, and what lies behind their ends is neither read nor written.
func TestArgumentsStay(t *testing.T) {
	r := rand.New(rand.NewSource(71))
	for range 200 {
		one, two := randomPair(r)
		a, allA := gridBehind(one)
		b, allB := gridBehind(two)
		nodes, allNodes := behind(known(a, b), -1, 0, 0)
		slices.Reverse(nodes)
		b64, allBytes := behind(sealed(plainBody(a)), 1, 2, 3)
		m := randomMesh(t, r, a.Raster, true)
		vertices, triangles, lines := slices.Clone(m.V), slices.Clone(m.T), slices.Clone(m.Lines)
		keptA, keptB, keptNodes, keptBytes := slices.Clone(allA), slices.Clone(allB), slices.Clone(allNodes), bytes.Clone(allBytes)
		for name, call := range map[string]func() api.Errno{
			"Render":     func() api.Errno { _, err := model.Render(m, a.Raster, 3*a.Raster.Step); return err },
			"Voids":      func() api.Errno { _, err := model.Voids(a); return err },
			"Thin":       func() api.Errno { _, err := model.Thin(a, 1); return err },
			"Coarse":     func() api.Errno { _, err := model.Coarse(a, 1); return err },
			"Compare":    func() api.Errno { _, err := model.Compare(a, b); return err },
			"Consistent": func() api.Errno { _, err := model.Consistent(a, b); return err },
			"Common":     func() api.Errno { _, err := model.Common(a, b); return err },
			"Regions":    func() api.Errno { _, err := model.Regions(a, b, 1); return err },
			"Amount":     func() api.Errno { _, _, err := model.Amount(a, b, nodes); return err },
			"Cut":        func() api.Errno { _, _, err := model.Cut(a, 5); return err },
			"Encode":     func() api.Errno { _, err := model.Encode(a); return err },
			"Decode":     func() api.Errno { _, err := model.Decode(b64); return err },
		} {
			if err := call(); err != api.OK {
				t.Fatalf("%s: error %d", name, err)
			}
			if !slices.Equal(allA, keptA) || !slices.Equal(allB, keptB) || !slices.Equal(allNodes, keptNodes) || !bytes.Equal(allBytes, keptBytes) {
				t.Fatalf("%s has changed an argument", name)
			}
			if !slices.Equal(m.V, vertices) || !slices.Equal(m.T, triangles) || !slices.Equal(m.Lines, lines) {
				t.Fatalf("%s has changed the mesh", name)
			}
		}
	}
}

// R4: results share no memory with arguments.
func TestGridsAreNew(t *testing.T) {
	g := row(cell(1, 2), void, cell(3, 4))
	kept := copyOf(g)
	thin, coarse := level(t, model.Thin, g, 1), level(t, model.Coarse, g, 1)
	for _, out := range []api.Grid{thin, coarse, common(t, g, g)} {
		clear(out.Cells[:cap(out.Cells)])
		if !sameGrid(g, kept) {
			t.Fatalf("the grid has become %v", g)
		}
	}
	b, _ := model.Encode(g)
	decoded, _ := model.Decode(b)
	clear(b)
	if !sameGrid(decoded, kept) {
		t.Errorf("the decoded grid has become %v", decoded)
	}
}

// R4: no two lists of a result share memory.
func TestPartsAreNew(t *testing.T) {
	g := drawn("..1.1", "1.1.1", "1.1..", "111.1")
	before := plainVoids(g)
	holes := voids(t, g)
	for i, h := range holes {
		clear(h.Nodes[:cap(h.Nodes)])
		if !sameHoles(holes[i+1:], before[i+1:]) {
			t.Errorf("holes share memory: %v", holes)
		}
	}
	a := full(g.Raster, cell(1, 1))
	b := drawn("11020", "21020", "21022", "22020")
	list, again := regions(t, a, b, 1), regions(t, a, b, 1)
	for i, region := range list {
		clear(region.Nodes[:cap(region.Nodes)])
		clear(region.Lo.Num[:cap(region.Lo.Num)])
		if !sameRat(region.Hi, again[i].Hi) {
			t.Errorf("both numbers of a region share memory: %v", region)
		}
		clear(region.Hi.Num[:cap(region.Hi.Num)])
		for k := i + 1; k < len(list); k++ {
			if !slices.Equal(list[k].Nodes, again[k].Nodes) || !sameRat(list[k].Lo, again[k].Lo) || !sameRat(list[k].Hi, again[k].Hi) {
				t.Errorf("regions share memory: %v", list)
			}
		}
	}
	if len(list) < 4 {
		t.Errorf("the regions are %v", again)
	}
	lo, hi := amount(t, a, b, []int{2})
	clear(lo.Num)
	if hi.Num[0] == 0 {
		t.Error("both amounts share memory")
	}
	lo, hi, _ = model.Cut(a, 0)
	clear(lo.Num)
	if hi.Num[0] == 0 {
		t.Error("both volumes share memory")
	}
}

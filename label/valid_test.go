package label_test

import (
	"math"
	"testing"

	"lidar/api"
	"lidar/label"
)

// P7.2: each field of a point has its limits.
func TestValidPoints(t *testing.T) {
	span := func(lo, hi int) func(*api.Point) { return func(p *api.Point) { p.Z = api.Span{Lo: lo, Hi: hi} } }
	echo := func(num, of int) func(*api.Point) { return func(p *api.Point) { p.Num, p.Of = num, of } }
	for name, c := range map[string]struct {
		change func(*api.Point)
		want   bool
	}{
		"as it is":         {func(p *api.Point) {}, true},
		"Id 0":             {func(p *api.Point) { p.Id = 0 }, true},
		"Id -1":            {func(p *api.Point) { p.Id = -1 }, false},
		"Id MaxId":         {func(p *api.Point) { p.Id = 1 << 60 }, true},
		"Id above":         {func(p *api.Point) { p.Id = 1<<60 + 1 }, false},
		"X least":          {func(p *api.Point) { p.X = -limit }, true},
		"X below":          {func(p *api.Point) { p.X = -limit - 1 }, false},
		"X greatest":       {func(p *api.Point) { p.X = limit }, true},
		"X above":          {func(p *api.Point) { p.X = limit + 1 }, false},
		"Y least":          {func(p *api.Point) { p.Y = -limit }, true},
		"Y below":          {func(p *api.Point) { p.Y = math.MinInt }, false},
		"Y greatest":       {func(p *api.Point) { p.Y = limit }, true},
		"Y above":          {func(p *api.Point) { p.Y = math.MaxInt }, false},
		"Z widest":         {span(-limit, limit), true},
		"Z low":            {span(-limit, -limit), true},
		"Z high":           {span(limit, limit), true},
		"Z below":          {span(-limit-1, 0), false},
		"Z above":          {span(0, limit+1), false},
		"Z empty":          {span(1, 0), false},
		"Wide 0":           {func(p *api.Point) { p.Wide = 0 }, true},
		"Wide -1":          {func(p *api.Point) { p.Wide = -1 }, false},
		"Wide greatest":    {func(p *api.Point) { p.Wide = limit }, true},
		"Wide above":       {func(p *api.Point) { p.Wide = limit + 1 }, false},
		"echo 1 of 15":     {echo(1, 15), true},
		"echo 15 of 15":    {echo(15, 15), true},
		"echo 0 of 1":      {echo(0, 1), false},
		"echo 0 of 0":      {echo(0, 0), false},
		"echo 2 of 1":      {echo(2, 1), false},
		"echo 1 of 16":     {echo(1, 16), false},
		"echo 1 of MinInt": {echo(1, math.MinInt), false},
		"echo 16 of 16":    {echo(16, 16), false},
		"any Class":        {func(p *api.Point) { p.Class = math.MinInt }, true},
	} {
		p := single(7, 3, 4, 5)
		c.change(&p)
		if got := label.Valid([]api.Point{single(8, 3, 4, 5), p}); got != c.want {
			t.Errorf("%s: Valid returns %t", name, got)
		}
	}
}

// P7.2: lists of points.
func TestValidLists(t *testing.T) {
	list := many(api.MaxPoints)
	if !label.Valid(nil) || !label.Valid(list) {
		t.Error("no points, or 1024 ones, are not valid")
	}
	if label.Valid(many(api.MaxPoints + 1)) {
		t.Error("1025 points are valid")
	}
	list[1023].Id = 0
	if label.Valid(list) {
		t.Error("points with the same Id are valid")
	}
	if !label.Valid([]api.Point{single(1, 2, 3, 4), single(2, 2, 3, 4)}) {
		t.Error("points at one place are not valid")
	}
}

// many returns points with the Ids from 0 on.
func many(n int) []api.Point {
	var list []api.Point
	for id := range n {
		list = append(list, single(id, id, id*id%1000, id%7))
	}
	return list
}

// P7.2: each of the rules has its limits.
func TestValidRules(t *testing.T) {
	const million = 1000000
	for name, c := range map[string]struct {
		field       func(*api.Terrain) *int
		least, most int
	}{
		"Cell":  {func(r *api.Terrain) *int { return &r.Cell }, 1, 10 * million},
		"Reach": {func(r *api.Terrain) *int { return &r.Reach }, 0, million},
		"Slope": {func(r *api.Terrain) *int { return &r.Slope }, 0, 100000},
		"Link":  {func(r *api.Terrain) *int { return &r.Link }, 1, million},
		"Flat":  {func(r *api.Terrain) *int { return &r.Flat }, 0, million},
		"Tall":  {func(r *api.Terrain) *int { return &r.Tall }, 0, million},
		"High":  {func(r *api.Terrain) *int { return &r.High }, 0, million},
		"Low":   {func(r *api.Terrain) *int { return &r.Low }, 0, million},
		"Brush": {func(r *api.Terrain) *int { return &r.Brush }, 0, million},
		"Few":   {func(r *api.Terrain) *int { return &r.Few }, 1, 1024},
	} {
		for n, want := range map[int]bool{c.least - 1: false, c.least: true, c.most: true, c.most + 1: false, math.MinInt: false, math.MaxInt: false} {
			r := example()
			*c.field(&r) = n
			if got := label.ValidRules(r); got != want {
				t.Errorf("%s %d: ValidRules returns %t", name, n, got)
			}
		}
	}
	if label.ValidRules(api.Terrain{}) {
		t.Error("rules with a Cell of 0 are valid")
	}
}

package label_test

import (
	"testing"

	"lidar/api"
	"lidar/label"
)

// P7.3: a point is sunk if there are others near it, and all of them rise over it by more than Low.
func TestSunk(t *testing.T) {
	r := example() // Link 5
	r.Low = 10
	for name, c := range map[string]struct {
		points []api.Point
		want   []int
	}{
		"alone":                        {[]api.Point{single(1, 0, 0, -900)}, nil},
		"more than Low":                {[]api.Point{single(1, 0, 0, 0), single(2, 3, 4, 11)}, []int{1}},
		"Low":                          {[]api.Point{single(1, 0, 0, 0), single(2, 3, 4, 10)}, nil},
		"too far away":                 {[]api.Point{single(1, 0, 0, 0), single(2, 4, 4, 99)}, nil},
		"across 0, as far as Link":     {[]api.Point{single(1, -1, 0, 0), single(2, 4, 0, 99)}, []int{1}},
		"across cells, down":           {[]api.Point{single(1, 5, 5, 0), single(2, 2, 1, 99)}, []int{1}},
		"at one place":                 {[]api.Point{single(1, 0, 0, 0), single(2, 0, 0, 99)}, []int{1}},
		"one near point does not rise": {[]api.Point{single(1, 0, 0, 0), single(2, 1, 0, 99), single(3, 0, 1, 3)}, nil},
		"all near points rise":         {[]api.Point{single(1, 0, 0, 0), single(2, 1, 0, 99), single(3, 0, 1, 11), single(4, 7, 0, 0)}, []int{1}},
		"spans, more than Low":         {[]api.Point{between(1, 0, 0, -9, 5), between(2, 1, 0, 16, 20)}, []int{1}},
		"spans, Low":                   {[]api.Point{between(1, 0, 0, -9, 6), between(2, 1, 0, 16, 20)}, nil},
		"two at one place":             {[]api.Point{single(1, 0, 0, 0), single(2, 0, 0, 0), single(3, 1, 1, 99)}, nil},
		"any echo":                     {[]api.Point{echo(9, 0, 0, 0, 1, 3), echo(4, 3, 0, 99, 2, 3), echo(2, 7, 0, 0, 3, 3)}, []int{2, 9}},
	} {
		got, err := label.Sunk(c.points, r)
		t.Run(name, func(t *testing.T) { expect(t, "Sunk", got, err, c.want, api.OK) })
	}
}

// P7.3: the limits of Link and of places.
func TestSunkAtLimits(t *testing.T) {
	r := example()
	r.Low = 0
	for _, link := range []int{1, 5, 1000000} {
		r.Link = link
		for _, at := range []api.XY{place(-limit, -limit), place(-1, -1), place(0, 0), place(limit-1000001, limit-1000001)} {
			for _, to := range []api.XY{place(at.X+link, at.Y), place(at.X, at.Y+link)} {
				got, err := label.Sunk([]api.Point{single(1, at.X, at.Y, 0), single(2, to.X, to.Y, 1)}, r)
				expect(t, "Sunk", got, err, []int{1}, api.OK)
				got, err = label.Sunk([]api.Point{single(2, at.X, at.Y, 1), single(1, to.X, to.Y, 0)}, r)
				expect(t, "Sunk", got, err, []int{1}, api.OK)
			}
			got, err := label.Sunk([]api.Point{single(1, at.X, at.Y, 0), single(2, at.X+link, at.Y+1, 1)}, r)
			expect(t, "Sunk", got, err, nil, api.OK)
		}
	}
	got, err := label.Sunk([]api.Point{between(1, 0, 0, -limit, -limit), between(2, 0, 0, limit, limit)}, r)
	expect(t, "Sunk", got, err, []int{1}, api.OK)
}

// P7.4: the lowest last echo of each place.
func TestLowest(t *testing.T) {
	for name, c := range map[string]struct {
		points []api.Point
		want   []int
	}{
		"last echoes":       {[]api.Point{echo(9, 0, 0, 0, 1, 1), echo(4, 1, 0, 0, 3, 3), echo(5, 2, 0, 0, 2, 3), echo(6, 3, 0, 0, 1, 2)}, []int{4, 9}},
		"less high":         {[]api.Point{single(1, 0, 0, 5), single(2, 0, 0, 4)}, []int{2}},
		"the same Hi":       {[]api.Point{between(8, 0, 0, 1, 5), between(3, 0, 0, 4, 5), between(4, 0, 0, -9, 5)}, []int{3}},
		"a lesser Lo":       {[]api.Point{between(1, 0, 0, -9, 6), between(2, 0, 0, 5, 5)}, []int{2}},
		"not a last echo":   {[]api.Point{echo(1, 0, 0, 0, 1, 2), single(2, 0, 0, 50)}, []int{2}},
		"other places":      {[]api.Point{single(3, 0, 0, 0), single(2, 0, 1, 5), single(1, 1, 0, 9)}, []int{1, 2, 3}},
		"greatest Id first": {[]api.Point{single(api.MaxId, 0, 0, 0), single(0, 1, 1, 0)}, []int{0, api.MaxId}},
	} {
		got, err := label.Lowest(c.points)
		t.Run(name, func(t *testing.T) { expect(t, "Lowest", got, err, c.want, api.OK) })
	}
}

// P7.5, example 1: the lowest candidate of each cell.
func TestSeeds(t *testing.T) {
	r := example() // Cell 10
	r.Low = 10
	for name, c := range map[string]struct {
		points []api.Point
		want   []int
	}{
		"example 1":               {[]api.Point{single(1, 0, 0, 3), single(2, 5, 5, 1), single(3, 12, 0, 2)}, []int{2, 3}},
		"the same Hi":             {[]api.Point{between(7, 0, 0, 0, 3), between(2, 9, 9, 3, 3)}, []int{2}},
		"cells below 0":           {[]api.Point{single(1, -1, 0, 0), single(2, 0, 0, 0), single(3, 0, -1, 0), single(4, -1, -1, 0), single(5, -10, -10, -1), single(6, -11, -10, 0)}, []int{1, 2, 3, 5, 6}},
		"no last echo":            {[]api.Point{echo(1, 0, 0, 0, 1, 2), single(2, 1, 1, 5)}, []int{2}},
		"a sunk point":            {[]api.Point{single(1, 0, 0, -20), single(2, 1, 1, 5)}, []int{2}},
		"a sunk point, no others": {[]api.Point{single(1, 0, 0, -20), single(2, -1, 0, 5)}, []int{2}},
		"over a sunk point":       {[]api.Point{single(1, 0, 0, -20), single(2, 0, 0, 5)}, []int{2}},
	} {
		got, err := label.Seeds(c.points, r)
		t.Run(name, func(t *testing.T) { expect(t, "Seeds", got, err, c.want, api.OK) })
	}
}

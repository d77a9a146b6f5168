package label_test

import (
	"slices"
	"testing"

	"lidar/api"
	"lidar/label"
)

// roofs returns Roofs over a frame of points of a height of 0, of a Link of 5, a Flat of 1, a Tall of 40 and a High of 100.
func roofs(t *testing.T, few int, points ...api.Point) []int {
	t.Helper()
	r := example()
	r.Low, r.Few = 10, few
	ids, err := label.Roofs(with(frame(), points...), []int{4, 3, 2, 1}, r)
	if err != api.OK {
		t.Fatalf("Roofs of %v: error %d", points, err)
	}
	return ids
}

// P7.11: which points are high.
func TestHighPoints(t *testing.T) {
	for name, c := range map[string]struct {
		points []api.Point
		want   []int
	}{
		"Tall":                     {[]api.Point{single(9, 50, 20, 40)}, []int{9}},
		"below Tall":               {[]api.Point{single(9, 50, 20, 39)}, nil},
		"High":                     {[]api.Point{single(9, 50, 20, 100)}, []int{9}},
		"above High":               {[]api.Point{single(9, 50, 20, 101)}, nil},
		"Lo is Tall":               {[]api.Point{between(9, 50, 20, 40, 500)}, []int{9}},
		"Lo is below Tall":         {[]api.Point{between(9, 50, 20, 39, 500)}, nil},
		"Lo is High":               {[]api.Point{between(9, 50, 20, 100, 101)}, []int{9}},
		"the first of two echoes":  {[]api.Point{echo(9, 50, 20, 50, 1, 2)}, nil},
		"the last of two echoes":   {[]api.Point{echo(9, 50, 20, 50, 2, 2)}, nil},
		"outside":                  {[]api.Point{single(9, 101, 20, 50)}, nil},
		"on the border":            {[]api.Point{single(9, 100, 20, 50)}, []int{9}},
		"sunk":                     {[]api.Point{single(9, 50, 20, 50), single(8, 51, 20, 61)}, []int{8}},
		"two at one place":         {[]api.Point{single(8, 50, 20, 51), single(9, 50, 20, 50)}, []int{9}},
		"the same Hi at one place": {[]api.Point{single(9, 50, 20, 51), between(8, 50, 20, 49, 51)}, []int{8}},
		"a low one at its place":   {[]api.Point{single(8, 50, 20, 51), echo(9, 50, 20, 41, 1, 2), single(7, 50, 20, 44)}, []int{7}},
	} {
		t.Run(name, func(t *testing.T) {
			if got := roofs(t, 1, c.points...); !slices.Equal(got, c.want) {
				t.Errorf("Roofs returns %v, not %v", got, c.want)
			}
		})
	}
	r := example()
	ids, err := label.Roofs(with(frame(), single(9, 99, 99, 50), single(8, 0, 50, 50)), []int{1, 2, 3, 9, 4}, r)
	expect(t, "Roofs with a high point in the ground", ids, err, []int{8}, api.OK)
}

// P7.11: high points are linked if they share a side, are not far apart and about as high.
func TestLinks(t *testing.T) {
	three := func(a, b, c api.XY, z ...int) []api.Point {
		return []api.Point{single(7, a.X, a.Y, z[0]), single(8, b.X, b.Y, z[1]), single(9, c.X, c.Y, z[2])}
	}
	for name, c := range map[string]struct {
		points []api.Point
		few    int
		want   []int
	}{
		"one group":                 {three(place(50, 20), place(54, 20), place(50, 23), 50, 50, 50), 3, []int{7, 8, 9}},
		"too small":                 {three(place(50, 20), place(54, 20), place(50, 23), 50, 50, 50), 4, nil},
		"as far as Link":            {three(place(50, 20), place(55, 20), place(53, 24), 50, 50, 50), 3, []int{7, 8, 9}},
		"two sides are too long":    {three(place(50, 20), place(54, 20), place(50, 26), 50, 50, 50), 2, []int{7, 8}},
		"in a row, by two links":    {three(place(50, 20), place(55, 20), place(54, 24), 50, 51, 52), 3, []int{7, 8, 9}},
		"Flat":                      {three(place(50, 20), place(54, 20), place(50, 23), 50, 51, 53), 2, []int{7, 8}},
		"not flat":                  {three(place(50, 20), place(54, 20), place(50, 23), 50, 52, 54), 2, nil},
		"each is a group":           {three(place(50, 20), place(54, 20), place(50, 23), 50, 52, 54), 1, []int{7, 8, 9}},
		"on one line, no sides":     {three(place(50, 20), place(51, 20), place(52, 20), 50, 50, 50), 2, nil},
		"on one line, Few is 1":     {three(place(50, 20), place(51, 20), place(52, 20), 50, 50, 50), 1, []int{7, 8, 9}},
		"spans as far as Flat":      {[]api.Point{between(7, 50, 20, 50, 60), between(8, 54, 20, 61, 70), between(9, 52, 23, 71, 75)}, 3, []int{7, 8, 9}},
		"spans too far apart":       {[]api.Point{between(7, 50, 20, 50, 60), between(8, 54, 20, 62, 70), between(9, 52, 23, 71, 75)}, 2, []int{8, 9}},
		"two groups":                {[]api.Point{single(9, 50, 20, 50), single(5, 52, 20, 50), single(8, 70, 20, 60), single(6, 70, 22, 60), single(7, 60, 60, 70)}, 2, []int{5, 6, 8, 9}},
		"the diagonal that is none": {[]api.Point{single(6, 50, 20, 50), single(7, 53, 20, 60), single(8, 50, 23, 70), single(9, 53, 23, 50)}, 2, nil}, // the side is that between 7 and 8
		"the diagonal that is one":  {[]api.Point{single(6, 50, 20, 60), single(7, 53, 20, 50), single(8, 50, 23, 50), single(9, 53, 23, 70)}, 2, []int{7, 8}},
	} {
		t.Run(name, func(t *testing.T) {
			r := example()
			r.Few = c.few
			got, err := label.Roofs(with(frame(), c.points...), []int{1, 2, 3, 4}, r)
			expect(t, "Roofs", got, err, c.want, api.OK)
		})
	}
}

// P7.11: without ground there is no surface, and nothing is high.
func TestRoofsWithoutGround(t *testing.T) {
	points := with(frame(), single(9, 50, 20, 50))
	for _, ground := range [][]int{nil, {1}, {2, 1}, {9}} {
		got, err := label.Roofs(points, ground, example())
		expect(t, "Roofs", got, err, nil, api.OK)
	}
}

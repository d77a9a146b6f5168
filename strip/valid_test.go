package strip_test

import (
	"testing"

	"lidar/api"
	"lidar/strip"
)

var easy = tied(1, 0, [3]int{3, -4, 5}, 6, 7)

// withMatch returns problems with three strips, in whose last match one number is another one.
func withMatch(change func(m *api.Match, n int), numbers ...int) []api.Problem {
	var list []api.Problem
	for _, n := range numbers {
		m := easy
		change(&m, n)
		list = append(list, problem(3, easy, m))
	}
	return list
}

func withA(numbers ...int) []api.Problem {
	return withMatch(func(m *api.Match, n int) { m.A = n }, numbers...)
}

func withB(numbers ...int) []api.Problem {
	return withMatch(func(m *api.Match, n int) { m.B = n }, numbers...)
}

func withNormal(k int, numbers ...int) []api.Problem {
	return withMatch(func(m *api.Match, n int) { m.Normal[k] = n }, numbers...)
}

func withD(numbers ...int) []api.Problem {
	return withMatch(func(m *api.Match, n int) { m.D = n }, numbers...)
}

func withW(numbers ...int) []api.Problem {
	return withMatch(func(m *api.Match, n int) { m.W = n }, numbers...)
}

// many returns a list with so many matches.
func many(n int) []api.Match {
	list := make([]api.Match, n)
	for i := range list {
		list[i] = easy
	}
	return list
}

func goodProblems() []api.Problem {
	list := append(withA(1, 2), withB(-1, 0, 2)...)
	for k := range 3 {
		list = append(list, withNormal(k, -100, -1, 0, 1, 100)...)
		list = append(list, withMatch(func(m *api.Match, n int) { m.Normal = [3]int{}; m.Normal[k] = n }, -100, -1, 1, 100)...)
	}
	list = append(list, withD(-1<<38, 0, 1<<38)...)
	list = append(list, withW(1, 1000)...)
	list = append(list, problem(2, many(64)...), problem(8, many(64)...))
	for n := 1; n <= 8; n++ {
		list = append(list, problem(n), problem(n, up(n-1, -1, 0, 1)))
	}
	return list
}

func badProblems() []api.Problem {
	list := append(withA(append(outside(0, 2), 0)...), withB(append(outside(-1, 2), 1)...)...)
	for k := range 3 {
		list = append(list, withNormal(k, outside(-100, 100)...)...)
	}
	list = append(list, withD(outside(-1<<38, 1<<38)...)...)
	list = append(list, withW(outside(1, 1000)...)...)
	list = append(list, withMatch(func(m *api.Match, n int) { m.Normal = [3]int{} }, 0)...)
	list = append(list, problem(2, many(65)...), problem(8, many(1000)...), problem(1, easy), api.Problem{})
	for _, n := range outside(1, 8) {
		list = append(list, problem(n), problem(n, easy))
	}
	first := withA(-1)[0].Matches // the match that is not valid is not the last one
	return append(list, problem(3, first[1], first[0]))
}

// P5.2
func TestValid(t *testing.T) {
	for _, p := range goodProblems() {
		if !strip.Valid(p) {
			t.Errorf("%v is not valid", p)
		}
	}
	for _, p := range badProblems() {
		if strip.Valid(p) {
			t.Errorf("%v is valid", p)
		}
	}
}

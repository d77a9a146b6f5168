package track_test

import (
	"cmp"
	"math/rand"
	"slices"
	"strings"
	"testing"

	"lidar/api"
	"lidar/track"
)

// plainNear compares without rounding of its own: a distance is an integer, so it is at most a number rounded up if it is less than that number plus 1.
func plainNear(a, b api.Fix, m api.Motion) bool {
	d := max(a.Time-b.Time, b.Time-a.Time)
	far := plus(whole(a.Err+b.Err+1), times(whole(m.Speed), ratio(d, 1000000)))
	for i := range 3 {
		if whole(max(a.Pos[i]-b.Pos[i], b.Pos[i]-a.Pos[i])).Cmp(far) >= 0 {
			return false
		}
	}
	return true
}

// P4.5: examples
func TestNearExamples(t *testing.T) {
	for _, c := range []struct {
		a, b  api.Fix
		speed int
		want  bool
	}{
		{fixAt(0, 0, 10), fixAt(1000000, 1021, 10), 1000, false},
		{fixAt(0, 0, 10), fixAt(1000000, 1021, 10), 1001, true},
		{fixAt(0, 0, 10), fixAt(1000000, 1020, 10), 1000, true},
		{fixAt(0, 0, 10), fixAt(1000001, 1021, 10), 1000, true},
		{fixAt(7, 5, 0), fixAt(7, 5, 0), 0, true},
		{fixAt(7, 5, 0), fixAt(7, 6, 0), 1000000, false},
		{fixAt(7, 5, 0), fixAt(8, 6, 0), 1, true},
		{fixAt(7, 5, 0), fixAt(8, 7, 0), 1, false},
		{fixAt(7, -1<<27, 0), fixAt(7+268435456, 1<<27, 0), 1000000, true},
		{fixAt(7, -1<<27, 0), fixAt(7+268435455, 1<<27, 0), 1000000, false},
		{fixAt(0, -1<<27, 0), fixAt(1<<50, 1<<27, 0), 1000000, true},
		{fixAt(0, -1<<27, 0), fixAt(1<<50, 1<<27, 0), 0, false},
	} {
		m := api.Motion{Gap: 1, Speed: c.speed}
		for i := range 3 {
			a, b := c.a, c.b
			a.Pos[0], a.Pos[i] = 0, c.a.Pos[0]
			b.Pos[0], b.Pos[i] = 0, c.b.Pos[0]
			there, err := track.Near(a, b, m)
			back, err2 := track.Near(b, a, m)
			if there != c.want || back != c.want || err != api.OK || err2 != api.OK {
				t.Errorf("Near of %v and %v with the speed %d = %t and %t", a, b, c.speed, there, back)
			}
		}
	}
}

// P4.5, R5: distances around the limit, and times whose products with the speed do not fit into an int.
func TestNear(t *testing.T) {
	r := rand.New(rand.NewSource(1))
	for range 20000 {
		a, b, m := randomFix(r), randomFix(r), randomRules(r)
		if far := millionth(m.Speed, max(a.Time-b.Time, b.Time-a.Time)); r.Intn(3) > 0 && far < 1<<27 {
			for i := range 3 {
				b.Pos[i] = max(-1<<27, min(a.Pos[i]+(a.Err+b.Err+far)*(1-2*r.Intn(2))-1+r.Intn(3), 1<<27))
			}
		}
		if got, err := track.Near(a, b, m); err != api.OK || got != plainNear(a, b, m) {
			t.Errorf("Near of %v and %v with %v = %t, error %d", a, b, m, got, err)
		}
	}
}

// plainClean marks each fix that has its time alone as kept (k), put aside (a), or the first one of a jump (j).
func plainClean(fixes []api.Fix, m api.Motion) (kept []api.Fix, issues []api.Issue) {
	var single []api.Fix
	for i, f := range fixes {
		if slices.Contains(fixes[:i], f) {
			continue
		}
		if slices.ContainsFunc(fixes, func(g api.Fix) bool { return g.Time == f.Time && g != f }) {
			issues = append(issues, api.Issue{Kind: 1, Time: f.Time})
		} else {
			single = append(single, f)
		}
	}
	slices.SortFunc(single, func(a, b api.Fix) int { return cmp.Compare(a.Time, b.Time) })
	marks, last := "", 0
	for i, f := range single {
		marks += "a"
		if i == 0 || plainNear(single[last], f, m) {
			marks = marks[:i] + "k"
			last = i
		} else if strings.HasSuffix(marks, "aaa") && plainNear(single[i-2], single[i-1], m) && plainNear(single[i-1], f, m) {
			marks = marks[:i-2] + "jkk"
			last = i
		}
	}
	for i, f := range single {
		if marks[i] != 'a' {
			kept = append(kept, f)
		}
		if kind := strings.IndexByte("aj", marks[i]); kind >= 0 {
			issues = append(issues, api.Issue{Kind: 2 + kind, Time: f.Time})
		}
	}
	slices.SortFunc(issues, func(a, b api.Issue) int { return cmp.Compare(a.Time, b.Time) })
	return kept, issues
}

func expectClean(t *testing.T, fixes []api.Fix, m api.Motion) ([]api.Fix, []api.Issue) {
	t.Helper()
	kept, issues, err := track.Clean(fixes, m)
	wantKept, wantIssues := plainClean(fixes, m)
	if err != api.OK || !slices.Equal(kept, wantKept) || !slices.Equal(issues, wantIssues) {
		t.Fatalf("Clean of %v with %v = %v, %v, error %d, want %v, %v", fixes, m, kept, issues, err, wantKept, wantIssues)
	}
	return kept, issues
}

// marked returns the digits of the fixes at the times 1, 2, .. whose position is a digit, here times 100, that Clean keeps, and its issues as their kinds at their times.
func marked(t *testing.T, digits string) (string, string) {
	t.Helper()
	var fixes []api.Fix
	for i, digit := range digits {
		fixes = append(fixes, fixAt(i+1, 100*int(digit-'0'), 10))
	}
	kept, issues := expectClean(t, fixes, api.Motion{Gap: 1})
	keptDigits, kinds := "", []byte(strings.Repeat(".", len(digits)))
	for _, f := range kept {
		keptDigits += string(rune('0' + f.Pos[0]/100))
	}
	for _, i := range issues {
		kinds[i.Time-1] = byte('0' + i.Kind)
	}
	return keptDigits, string(kinds)
}

// P4.6: rows of fixes put aside.
func TestCleanRows(t *testing.T) {
	for _, c := range []struct{ digits, kept, issues string }{
		{"", "", ""},
		{"1", "1", "."},
		{"1111", "1111", "...."},
		{"1211", "111", ".2.."},
		{"1221", "11", ".22."},
		{"1222", "1222", ".3.."},
		{"12221", "1222", ".3..2"},
		{"122111", "1111", ".22..."},
		{"1221221", "111", ".22.22."},
		{"132221", "1222", ".23..2"},
		{"1323222", "1222", ".2223.."},
		{"1222333", "1222333", ".3..3.."},
		{"1222111", "1222111", ".3..3.."},
		{"12223332", "1222333", ".3..3..2"},
		{"12223313", "1222", ".3..2222"},
		{"1234", "1", ".222"},
		{"122", "1", ".22"},
		{"133222", "1222", ".223.."},
		{"12212221", "11222", ".22.3..2"},
	} {
		if kept, issues := marked(t, c.digits); kept != c.kept || issues != c.issues {
			t.Errorf("Clean of %s keeps %s with the issues %s, want %s and %s", c.digits, kept, issues, c.kept, c.issues)
		}
	}
}

// P4.6: all short lists of places, at times of their own; and all short lists of fixes of which several are at one time or the same.
func TestClean(t *testing.T) {
	allLists(7, 3, func(list []int) {
		var fixes []api.Fix
		for i, n := range list {
			fixes = append(fixes, fixAt(i, 15*n, 10))
		}
		expectClean(t, fixes, api.Motion{Gap: 1})
	})
	few := []api.Fix{fixAt(3, 0, 10), fixAt(3, 1, 10), fixAt(3, 0, 11), fixAt(1, 0, 10), fixAt(2, 90, 10), fixAt(4, 90, 10), fixAt(5, 90, 10)}
	allLists(5, len(few)-1, func(list []int) {
		var fixes []api.Fix
		for _, n := range list {
			fixes = append(fixes, few[n])
		}
		expectClean(t, fixes, api.Motion{Gap: 1})
	})
}

// P4.6: a difference in any field makes two fixes contradict each other.
func TestCleanTwice(t *testing.T) {
	others := []api.Fix{}
	for i := range 3 {
		others = append(others, changed(easy, func(f *api.Fix, n int) { f.Pos[i] += n }, 1)...)
	}
	for i := range 4 {
		others = append(others, changed(easy, func(f *api.Fix, n int) { f.Quat[i] += n }, 1)...)
	}
	others = append(others, changed(easy, func(f *api.Fix, n int) { f.Err += n }, 1)...)
	others = append(others, changed(easy, func(f *api.Fix, n int) { f.Tilt += n }, 1)...)
	for _, f := range others {
		kept, issues, err := track.Clean([]api.Fix{easy, f, easy, f, easy}, rules)
		if err != api.OK || len(kept) != 0 || !slices.Equal(issues, []api.Issue{{Kind: api.IssueTwice, Time: 5}, {Kind: api.IssueTwice, Time: 5}}) {
			t.Errorf("Clean of %v and %v = %v, %v, error %d", easy, f, kept, issues, err)
		}
	}
	kept, issues, err := track.Clean(slices.Repeat([]api.Fix{easy}, 4096), rules)
	if err != api.OK || !slices.Equal(kept, []api.Fix{easy}) || len(issues) != 0 {
		t.Errorf("Clean of the same fix = %v, %v, error %d", kept, issues, err)
	}
	all := append(others, easy)
	if kept, issues := expectClean(t, all, rules); len(kept) != 0 || len(issues) != len(all) {
		t.Errorf("Clean of %v = %v, %v", all, kept, issues)
	}
}

// randomFixes returns the fixes of a flight with jumps and mistakes, in any order.
func randomFixes(r *rand.Rand, number int) []api.Fix {
	var list []api.Fix
	time, x := r.Intn(1000), r.Intn(1000)
	for range number {
		time += 1 + r.Intn(200)
		x += r.Intn(21) - 10
		f := fixAt(time, x, r.Intn(8))
		switch r.Intn(12) {
		case 0:
			x += 500
		case 1:
			f.Pos[r.Intn(3)] += 300
		case 2:
			list = append(list, f)
		case 3:
			list = append(list, fixAt(time, x, 50))
		}
		list = append(list, f)
	}
	r.Shuffle(len(list), func(i, j int) { list[i], list[j] = list[j], list[i] })
	return list
}

// P4.6, P4.15: flights, in several orders; and what was kept, once more.
func TestCleanOfFlights(t *testing.T) {
	r := rand.New(rand.NewSource(2))
	steady := 0
	for range 1500 {
		fixes := randomFixes(r, r.Intn(40))
		m := api.Motion{Gap: 150, Speed: r.Intn(3) * 20000}
		kept, issues := expectClean(t, fixes, m)
		slices.Reverse(fixes)
		again, same := expectClean(t, fixes, m)
		r.Shuffle(len(fixes), func(i, j int) { fixes[i], fixes[j] = fixes[j], fixes[i] })
		third, equal := expectClean(t, fixes, m)
		if !slices.Equal(kept, again) || !slices.Equal(issues, same) || !slices.Equal(kept, third) || !slices.Equal(issues, equal) {
			t.Errorf("Clean of %v depends on their order", fixes)
		}
		if slices.ContainsFunc(issues, func(i api.Issue) bool { return i.Kind == api.IssueJump }) {
			continue
		}
		steady++
		if all, none := expectClean(t, kept, m); !slices.Equal(all, kept) || len(none) != 0 {
			t.Errorf("Clean of %v = %v, %v", kept, all, none)
		}
	}
	if steady < 100 {
		t.Errorf("only %d flights were without jumps", steady)
	}
}

// P4.5, P4.6, P4.7: the order of errors.
func TestFixErrors(t *testing.T) {
	many := make([]api.Fix, 4097)
	for i := range many {
		many[i] = fixAt(i, 0, 0)
	}
	expect := func(fixes []api.Fix, m api.Motion, want api.Errno) {
		t.Helper()
		if kept, issues, err := track.Clean(fixes, m); err != want || want != api.OK && (len(kept) != 0 || len(issues) != 0) {
			t.Errorf("Clean of %d fixes with %v = %v, %v, error %d, want %d", len(fixes), m, kept, issues, err, want)
		}
		if tr, err := track.Parts(fixes, m); err != want || want != api.OK && tr.Parts != nil {
			t.Errorf("Parts of %d fixes with %v = %v, error %d, want %d", len(fixes), m, tr, err, want)
		}
		if len(fixes) == 2 {
			if near, err := track.Near(fixes[0], fixes[1], m); err != want || near && want != api.OK {
				t.Errorf("Near of %v with %v = %t, error %d, want %d", fixes, m, near, err, want)
			}
		}
	}
	for _, f := range badFixes() {
		expect([]api.Fix{f}, rules, api.ErrFix)
		expect([]api.Fix{f, easy}, rules, api.ErrFix)
		expect([]api.Fix{easy, f}, rules, api.ErrFix)
		expect([]api.Fix{easy, f}, api.Motion{}, api.ErrRules)
	}
	for _, m := range badRules() {
		expect([]api.Fix{fixAt(1, 0, 0), easy}, m, api.ErrRules)
		expect(many, m, api.ErrRules)
		expect(nil, m, api.ErrRules)
	}
	for _, m := range goodRules() {
		expect([]api.Fix{fixAt(1, 0, 0), easy}, m, api.OK)
	}
	expect(many, rules, api.ErrArg)
	expect(many[:4096], rules, api.OK)
	many[4096].Err = -1
	expect(many, rules, api.ErrFix)
	same := slices.Repeat([]api.Fix{easy}, 4097) // they are counted as they are given
	expect(same, rules, api.ErrArg)
}

// plainParts returns where parts begin.
func plainBegins(fixes []api.Fix, m api.Motion) []bool {
	var begins []bool
	for i, f := range fixes {
		begins = append(begins, i == 0 || f.Time > fixes[i-1].Time+m.Gap || !plainNear(f, fixes[i-1], m))
	}
	return begins
}

func expectParts(t *testing.T, fixes []api.Fix, m api.Motion) {
	t.Helper()
	tr := partsOf(t, m, fixes...)
	var begins []bool
	for _, part := range tr.Parts {
		for i := range part {
			begins = append(begins, i == 0)
		}
	}
	if !slices.Equal(slices.Concat(tr.Parts...), fixes) || !slices.Equal(begins, plainBegins(fixes, m)) || !track.ValidTrack(tr, m) {
		t.Errorf("Parts of %v with %v = %v", fixes, m, tr)
	}
}

// P4.7, P4.15
func TestParts(t *testing.T) {
	m := api.Motion{Gap: 1000, Speed: 1000}
	expectParts(t, nil, m)
	expectParts(t, []api.Fix{}, m)
	expectParts(t, []api.Fix{easy}, m)
	for _, c := range []struct {
		second api.Fix
		parts  int
	}{{fixAt(1000, 0, 0), 1}, {fixAt(1001, 0, 0), 2}, {fixAt(1000, 1, 0), 1}, {fixAt(1000, 2, 0), 2}, {fixAt(1, 1, 0), 1}, {fixAt(1, 5, 4), 1}, {fixAt(1, 6, 4), 2}} {
		fixes := []api.Fix{fixAt(0, 0, 0), c.second}
		expectParts(t, fixes, m)
		if tr := partsOf(t, m, fixes...); len(tr.Parts) != c.parts {
			t.Errorf("Parts of %v = %v", fixes, tr)
		}
	}
	r := rand.New(rand.NewSource(3))
	for range 500 {
		m := api.Motion{Gap: 1 + r.Intn(200), Speed: r.Intn(3) * 20000}
		kept, _, _ := track.Clean(randomFixes(r, r.Intn(40)), m)
		expectParts(t, kept, m)
	}
}

// P4.7
func TestPartsErrors(t *testing.T) {
	for _, times := range [][]int{{0, 0}, {1, 0}, {0, 5, 5}, {0, 5, 4, 6}, {7, 8, 9, 8}, {0, 100000, 99999}} {
		if tr, err := track.Parts(fixesAt(times...), rules); err != api.ErrArg || tr.Parts != nil {
			t.Errorf("Parts of fixes at %v = %v, error %d", times, tr, err)
		}
	}
	unordered := append(fixesAt(5, 4), api.Fix{})
	if tr, err := track.Parts(unordered, rules); err != api.ErrFix || tr.Parts != nil {
		t.Errorf("Parts of %v = %v, error %d", unordered, tr, err)
	}
}

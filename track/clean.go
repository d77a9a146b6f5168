package track

import (
	"cmp"
	"slices"

	"lidar/api"
)

// Near reports whether two fixes can both be right.
func Near(a, b api.Fix, m api.Motion) (bool, api.Errno) {
	if err := fixError(m, a, b); err != api.OK {
		return false, err
	}
	return nearFor(m)(a, b), api.OK
}

// fixError returns what is wrong with rules and fixes.
func fixError(m api.Motion, fixes ...api.Fix) api.Errno {
	if !ValidRules(m) {
		return api.ErrRules
	}
	for _, f := range fixes {
		if !ValidFix(f) {
			return api.ErrFix
		}
	}
	return api.OK
}

// nearFor returns the function that asks whether two valid fixes can both be right by valid rules.
func nearFor(m api.Motion) func(a, b api.Fix) bool {
	return func(a, b api.Fix) bool {
		far := a.Err + b.Err + perMillion(m.Speed, max(a.Time-b.Time, b.Time-a.Time))
		return within(-far, far, a.Pos[0]-b.Pos[0], a.Pos[1]-b.Pos[1], a.Pos[2]-b.Pos[2])
	}
}

// Clean returns the fixes that do not contradict others, and what is wrong with the other ones.
func Clean(fixes []api.Fix, m api.Motion) ([]api.Fix, []api.Issue, api.Errno) {
	if err := fixError(m, fixes...); err != api.OK {
		return nil, nil, err
	}
	if len(fixes) > api.MaxFixes {
		return nil, nil, api.ErrArg
	}
	single, issues := alone(distinct(fixes))
	kept, more := connected(single, nearFor(m))
	issues = append(issues, more...)
	slices.SortFunc(issues, func(a, b api.Issue) int {
		return cmp.Or(cmp.Compare(a.Time, b.Time), cmp.Compare(a.Kind, b.Kind))
	})
	return kept, issues, api.OK
}

// distinct returns each fix once, in ascending order of time. The order of those with one time plays no part: none of them is kept.
func distinct(fixes []api.Fix) []api.Fix {
	var list []api.Fix
	seen := map[api.Fix]bool{}
	for _, f := range fixes {
		if !seen[f] {
			seen[f] = true
			list = append(list, f)
		}
	}
	slices.SortFunc(list, func(a, b api.Fix) int { return cmp.Compare(a.Time, b.Time) })
	return list
}

// alone returns those of the fixes, which are in ascending order of time, that are the only ones at their time, and an issue for each of the others.
func alone(fixes []api.Fix) (single []api.Fix, issues []api.Issue) {
	for i, f := range fixes {
		if i > 0 && fixes[i-1].Time == f.Time || i+1 < len(fixes) && fixes[i+1].Time == f.Time {
			issues = append(issues, api.Issue{Kind: api.IssueTwice, Time: f.Time})
		} else {
			single = append(single, f)
		}
	}
	return single, issues
}

// connected returns the fixes that follow from those in front of them, and the issues of the others and of jumps.
func connected(fixes []api.Fix, near func(a, b api.Fix) bool) (kept []api.Fix, issues []api.Issue) {
	var aside []api.Fix // the row of fixes put aside one directly after the other
	endRow := func() {
		for _, f := range aside {
			issues = append(issues, api.Issue{Kind: api.IssueOff, Time: f.Time})
		}
		aside = nil
	}
	for i, f := range fixes {
		if i == 0 || near(kept[len(kept)-1], f) {
			kept = append(kept, f)
			endRow()
			continue
		}
		aside = append(aside, f)
		if n := len(aside) - 3; n >= 0 && near(aside[n], aside[n+1]) && near(aside[n+1], aside[n+2]) {
			issues = append(issues, api.Issue{Kind: api.IssueJump, Time: aside[n].Time})
			kept = append(kept, aside[n:]...)
			aside = aside[:n]
			endRow()
		}
	}
	endRow()
	return kept, issues
}

// Parts returns the track of fixes.
func Parts(fixes []api.Fix, m api.Motion) (api.Track, api.Errno) {
	if err := fixError(m, fixes...); err != api.OK {
		return api.Track{}, err
	}
	if len(fixes) > api.MaxFixes {
		return api.Track{}, api.ErrArg
	}
	near := nearFor(m)
	var parts [][]api.Fix
	for i, f := range fixes {
		last := len(parts) - 1
		switch {
		case i > 0 && f.Time <= fixes[i-1].Time:
			return api.Track{}, api.ErrArg
		case i > 0 && f.Time-fixes[i-1].Time <= m.Gap && near(fixes[i-1], f):
			parts[last] = append(parts[last], f)
		default:
			parts = append(parts, []api.Fix{f})
		}
	}
	return api.Track{Parts: parts}, api.OK
}

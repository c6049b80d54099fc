package cases

import (
	"cmp"
	"slices"

	"gyttja/api"
	"gyttja/span"
)

// allYears are the years between marks that nothing ties to each other.
var allYears = api.Run{Lo: -api.Far, Hi: api.Far}

// between returns the numbers of years that b may lie below a in the chronologies of the claims at a leaf.
func between(claims []api.Claim, a, b int) api.Run {
	if a == b {
		return api.Run{}
	}
	lo, hi, e := span.Bounds(claims, a, b)
	if e != api.OK {
		return allYears // one of the marks does not occur in the claims
	}
	return api.Run{Lo: lo, Hi: hi}
}

// Values returns the numbers of years that may lie between two marks.
func Values(w api.World, a, b int) ([]api.Run, api.Errno) {
	if e := checkMarks(w, a, b); e != api.OK {
		return nil, e
	}
	var runs []api.Run
	eachLeaf(w, func(_ []int, claims []api.Claim) bool {
		r := between(claims, a, b)
		runs = append(runs, r)
		return a != b && r != allYears // otherwise no further leaf adds anything
	})
	if len(runs) == 0 {
		return nil, api.ErrChronology
	}
	return normal(runs), api.OK
}

// normal makes the normal form of runs.
func normal(runs []api.Run) []api.Run {
	slices.SortFunc(runs, func(r, s api.Run) int { return cmp.Compare(r.Lo, s.Lo) })
	var l []api.Run
	for _, r := range runs {
		if last := len(l) - 1; last >= 0 && r.Lo <= l[last].Hi+1 {
			l[last].Hi = max(l[last].Hi, r.Hi)
		} else {
			l = append(l, r)
		}
	}
	return l
}

// Bounds returns the least and the greatest number of years between two marks.
func Bounds(w api.World, a, b int) (lo, hi int, e api.Errno) {
	runs, e := Values(w, a, b)
	if e != api.OK {
		return 0, 0, e
	}
	return runs[0].Lo, runs[len(runs)-1].Hi, api.OK
}

// Has reports whether so many years may lie between two marks.
func Has(w api.World, a, b, years int) (bool, api.Errno) {
	runs, e := Values(w, a, b)
	return slices.ContainsFunc(runs, func(r api.Run) bool { return within(years, r.Lo, r.Hi) }), e
}

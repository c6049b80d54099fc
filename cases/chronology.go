package cases

import (
	"slices"

	"gyttja/api"
	"gyttja/mark"
	"gyttja/pick"
	"gyttja/span"
)

// Chronology returns a chronology, and its choices, that numbers choose.
func Chronology(w api.World, picks []int) ([]int, []api.Dated, api.Errno) {
	leaves, e := Leaves(w)
	if e != api.OK {
		return nil, nil, e
	}
	if len(leaves) == 0 {
		return nil, nil, api.ErrChronology
	}
	choices := leaves[pick.Index(picks, 0, len(leaves))]
	if len(picks) > 0 {
		picks = slices.Concat(picks[1:], picks[:1])
	}
	d, _ := span.Chronology(claimsBehind(w, choices...), picks)
	return choices, filled(w, d), api.OK
}

// filled adds the marks of a world that a chronology of the claims at a leaf does not have: nothing ties them, so they have the year 0.
func filled(w api.World, d []api.Dated) []api.Dated {
	years := yearsOf(d)
	var l []api.Dated
	for _, m := range mark.OfWorld(w) {
		l = append(l, api.Dated{Mark: m, Year: years[m]})
	}
	return l
}

func yearsOf(d []api.Dated) map[int]int {
	years := make(map[int]int, len(d))
	for _, x := range d {
		years[x.Mark] = x.Year
	}
	return years
}

// CheckChronology returns choices with which years are a chronology.
func CheckChronology(w api.World, d []api.Dated) ([]int, api.Errno) {
	if e := Check(w); e != api.OK {
		return nil, e
	}
	if !slices.EqualFunc(d, mark.OfWorld(w), func(x api.Dated, m int) bool { return x.Mark == m }) {
		return nil, api.ErrMark
	}
	if slices.ContainsFunc(d, func(x api.Dated) bool { return !mayBe(x) }) {
		return nil, api.ErrYear
	}
	years := yearsOf(d)
	hold := func(claims []api.Claim) bool {
		return !slices.ContainsFunc(claims, func(c api.Claim) bool { return !within(years[c.B]-years[c.A], c.Lo, c.Hi) })
	}
	if !hold(w.Claims) {
		return nil, api.ErrYear
	}
	// The years of all marks are given, so each question has its first choice whatever the others have.
	var choices []int
	for _, q := range w.Questions {
		choice := slices.IndexFunc(q.Choices, hold)
		if choice == none {
			return nil, api.ErrYear
		}
		choices = append(choices, choice)
	}
	return choices, api.OK
}

// mayBe reports whether a mark may have its year, whatever claims say.
func mayBe(x api.Dated) bool {
	if x.Mark == 0 {
		return x.Year == 0
	}
	return within(x.Year, -api.Far, api.Far)
}

// Attain returns a chronology with a number of years between two marks, and its choices.
func Attain(w api.World, a, b, years int) ([]int, []api.Dated, api.Errno) {
	if e := checkMarks(w, a, b); e != api.OK {
		return nil, nil, e
	}
	e := api.ErrChronology
	var found []int
	var d []api.Dated
	eachLeaf(w, func(choices []int, claims []api.Claim) bool {
		e = api.ErrYear
		r := between(claims, a, b)
		if !within(years, max(r.Lo, -api.MaxReach), min(r.Hi, api.MaxReach)) {
			return true
		}
		found, d, e = choices, attained(w, claims, a, b, years), api.OK
		return false
	})
	return found, d, e
}

// attained returns a chronology of a world and the claims at a leaf in which b lies so many years below a, which it may there.
func attained(w api.World, claims []api.Claim, a, b, years int) []api.Dated {
	d, e := span.Attain(claims, a, b, years)
	if e == api.OK {
		return filled(w, d)
	}
	// Nothing ties the marks to each other (or they are one mark), so the marks that are tied to one of them are moved together.
	d, _ = span.Chronology(claims, nil)
	d = filled(w, d)
	has := yearsOf(d)
	moved, by := partOf(claims, b), years-(has[b]-has[a])
	if slices.Contains(moved, 0) {
		moved, by = partOf(claims, a), -by // the datum stays where it is
	}
	for i, x := range d {
		if slices.Contains(moved, x.Mark) {
			d[i].Year += by
		}
	}
	return d
}

// partOf returns the marks that claims tie to a mark, and the mark.
func partOf(claims []api.Claim, mark int) []int {
	for _, part := range span.Parts(claims) {
		if slices.Contains(part, mark) {
			return part
		}
	}
	return []int{mark}
}

package cases_test

import (
	"slices"
	"testing"

	"gyttja/api"
	"gyttja/cases"
)

type outcome struct {
	e    api.Errno
	zero bool // all other results are zero values
}

// outcomes calls each function that takes a world and tells an error.
func outcomes(w api.World, a, b, n int) map[string]outcome {
	choices := []int{a, b}
	years := []api.Dated{{Mark: a, Year: n}}
	at, noAt := cases.At(w, choices)
	grown, noGrow := cases.Grow(w)
	leaves, noLeaves := cases.Leaves(w)
	left, noLeft := cases.Left(w)
	values, noValues := cases.Values(w, a, b)
	lo, hi, noBounds := cases.Bounds(w, a, b)
	has, noHas := cases.Has(w, a, b, n)
	chosen, dates, noChronology := cases.Chronology(w, choices)
	found, noCheckChronology := cases.CheckChronology(w, years)
	which, attained, noAttain := cases.Attain(w, a, b, n)
	conflict, noConflict := cases.Conflict(w)
	blamed, noBlame := cases.Blame(w, choices)
	return map[string]outcome{
		"Check":           {cases.Check(w), true},
		"At":              {noAt, len(at) == 0},
		"Grow":            {noGrow, len(grown.Twigs) == 0},
		"CheckTree":       {cases.CheckTree(w, api.Tree{Twigs: []api.Twig{{Parent: a, Choice: b}}}), true},
		"Leaves":          {noLeaves, len(leaves) == 0},
		"Left":            {noLeft, len(left) == 0},
		"Values":          {noValues, len(values) == 0},
		"Bounds":          {noBounds, lo == 0 && hi == 0},
		"Has":             {noHas, !has},
		"Chronology":      {noChronology, len(chosen) == 0 && len(dates) == 0},
		"CheckChronology": {noCheckChronology, len(found) == 0},
		"Attain":          {noAttain, len(which) == 0 && len(attained) == 0},
		"Conflict":        {noConflict, len(conflict) == 0},
		"CheckConflict":   {cases.CheckConflict(w, choices), true},
		"Blame":           {noBlame, len(blamed) == 0},
	}
}

// P1, R1, R2: each function has the error of Check first, and zero values beside it.
func TestBadWorlds(t *testing.T) {
	for name, c := range badWorlds() {
		for _, x := range [][3]int{{1, 2, 0}, {1, 1, -1}, {-1, 3000, 401}, {-1, -1, 0}} {
			for function, o := range outcomes(c.w, x[0], x[1], x[2]) {
				if o.e != c.e || !o.zero {
					t.Error(function, "of", name, o)
				}
			}
		}
	}
}

// P1, R2: no function panics, whatever its arguments are; beside an error all else is zero.
func TestAnyArguments(t *testing.T) {
	worlds := []api.World{{}, example(), broken(), loose()}
	for _, a := range extremes {
		for _, b := range extremes {
			odd := question(a, claims(claim(a, b, b, a, a)), nil, claims(claim(b, a, a, b, b)))
			if e := cases.CheckQuestion(odd); e != api.OK && e != api.ErrQuestion {
				t.Error(odd, e)
			}
			strange := world(claims(claim(a, b, b, a, b)), odd, open(b, 1))
			cases.Sources(strange)
			cases.Without(strange, []int{a, b})
			for _, w := range append(worlds, strange, world(nil, odd)) {
				cases.CheckTree(w, api.Tree{Twigs: []api.Twig{{Parent: -1, Choice: -1}, {Cut: []api.Step{ahead(a), back(b)}}, {Parent: a, Choice: b}}})
				for function, o := range outcomes(w, a, b, a) {
					if o.e != api.OK && !o.zero {
						t.Error(function, w, a, b, o)
					}
				}
			}
		}
	}
}

// R3: empty lists in place of nil change nothing.
func TestEmptyLists(t *testing.T) {
	empty := api.World{Claims: []api.Claim{}, Questions: []api.Question{{By: 2, Choices: [][]api.Claim{{}, nil}}}}
	bare := api.World{Questions: []api.Question{open(2, 2)}}
	for _, n := range []int{0, 1} {
		one, other := outcomes(empty, n, n, n), outcomes(bare, n, n, n)
		for function := range one {
			if one[function] != other[function] {
				t.Error(function, one[function], other[function])
			}
		}
	}
	if x := first(cases.Grow(empty)); cases.CheckTree(bare, x) != api.OK || len(x.Twigs) != 3 {
		t.Error(x)
	}
}

// R4: no argument is changed, whatever is done to a result.
func TestMemory(t *testing.T) {
	for _, w := range []api.World{example(), broken(), loose()} {
		keep := copyOf(w)
		picks, by, way, years := []int{5, 1, 7}, []int{1, 2, 4}, []int{1, 0}, dated(0, 0, 5, 12, 6, 15)
		rest := cases.Without(w, nil)
		rest.Claims[0].A = 77
		for i, q := range rest.Questions {
			for _, l := range q.Choices {
				for k := range l {
					l[k].A = 77
				}
				_ = append(l, claim(77, 77, 77, 77, 77))
			}
			q.Choices[0] = nil
			rest.Questions[i].By = 77
		}
		at, _ := cases.At(w, way)
		at[0].A, at[len(at)-1].A = 77, 77
		x, _ := cases.Grow(w)
		grown := copyOfTree(x)
		cases.CheckTree(w, x)
		choices, chosen, _ := cases.Chronology(w, picks)
		for i := range choices {
			choices[i], chosen[i].Year = 77, 77
		}
		cases.CheckChronology(w, years)
		cases.Attain(w, 0, 6, 14)
		cases.CheckConflict(w, by)
		cases.Conflict(w)
		cases.Blame(w, way)
		sources := cases.Sources(w)
		sources[0] = 77
		cases.Values(w, 0, 6)
		if !sameWorlds(w, keep) || !sameTrees(x, grown) {
			t.Error(w, x)
		}
		if !slices.Equal(picks, []int{5, 1, 7}) || !slices.Equal(by, []int{1, 2, 4}) || !slices.Equal(way, []int{1, 0}) || !slices.Equal(years, dated(0, 0, 5, 12, 6, 15)) {
			t.Error(picks, by, way, years)
		}
	}
}

func copyOfTree(t api.Tree) api.Tree {
	var c api.Tree
	for _, x := range t.Twigs {
		x.Cut = slices.Clone(x.Cut)
		c.Twigs = append(c.Twigs, x)
	}
	return c
}

func sameTrees(t, u api.Tree) bool {
	return slices.EqualFunc(t.Twigs, u.Twigs, func(x, y api.Twig) bool {
		return x.Parent == y.Parent && x.Choice == y.Choice && slices.Equal(x.Cut, y.Cut)
	})
}

// R4: no two lists of one result share memory.
func TestResultsShareNothing(t *testing.T) {
	w := example()
	for name, lists := range map[string][][]int{"Leaves": first(cases.Leaves(w)), "Left": first(cases.Left(w))} {
		keep := make([][]int, len(lists))
		for i, l := range lists {
			keep[i] = slices.Clone(l)
		}
		for i, l := range lists {
			_ = append(l, 77)
			for k := range l {
				l[k] = 77
			}
			for j := i + 1; j < len(lists); j++ {
				if !slices.Equal(lists[j], keep[j]) {
					t.Error(name, lists)
				}
			}
		}
	}
	x, _ := cases.Grow(w)
	keep := copyOfTree(x)
	for i := range x.Twigs[4].Cut {
		x.Twigs[4].Cut[i] = ahead(77)
	}
	_ = append(x.Twigs[4].Cut, ahead(77))
	if !slices.Equal(x.Twigs[7].Cut, keep.Twigs[7].Cut) {
		t.Error(x)
	}
	// Questions that share their choices do not share them in a copy.
	q := question(1, claims(claim(1, 2, 0, 0, 1)))
	rest := cases.Without(world(nil, q, q), nil)
	rest.Questions[0].Choices[0][0].A = 77
	if rest.Questions[1].Choices[0][0].A != 1 || q.Choices[0][0].A != 1 {
		t.Error(rest)
	}
}

// largest has as many leaves, claims and marks as may be, with years if it has a leaf; each source has one claim or question.
func largest(counts []int, leaf bool) api.World {
	d := dice(71)
	var years [64]int
	for i := range years {
		years[i] = 100 * d.IntN(500)
	}
	some := func(by, off int) api.Claim {
		a := d.IntN(64)
		b := (a + 1 + d.IntN(63)) % 64
		apart := years[b] - years[a] + off
		return claim(a, b, apart-d.IntN(100), apart+d.IntN(100), by)
	}
	var w api.World
	for i := range 64 {
		w.Claims = append(w.Claims, claim(i, (i+1)%64, years[(i+1)%64]-years[i]-9, years[(i+1)%64]-years[i]+9, i+1))
	}
	for i := range 300 {
		w.Claims = append(w.Claims, some(100+i, 0))
	}
	for i, n := range counts {
		q := api.Question{By: 1000 + i}
		for range n {
			off := 0
			if !leaf && i == len(counts)-1 {
				off = 1000 + d.IntN(100)
			}
			var l []api.Claim
			for range 36 / len(counts) {
				l = append(l, some(q.By, off))
			}
			q.Choices = append(q.Choices, l)
		}
		w.Questions = append(w.Questions, q)
	}
	return w
}

// P1: all functions of as many leaves, claims and marks as may be come to an end in due time.
func TestLargestWorlds(t *testing.T) {
	for _, counts := range [][]int{{60, 50}, {3, 4, 5, 5, 2, 5}} {
		w := largest(counts, true)
		if e := cases.Check(w); e != api.OK || len(marksOf(w)) != 64 {
			t.Fatal(e)
		}
		choices, d, e := cases.Chronology(w, []int{2999, 7, 11})
		if e != api.OK || !isChronology(w, choices, d) {
			t.Error(choices, e)
		}
		years := yearsOf(d)
		if is, e := cases.Has(w, 0, 63, years[63]-years[0]); !is || e != api.OK {
			t.Error(is, e)
		}
		w = largest(counts, false)
		by, e := cases.Conflict(w)
		if e != api.OK || cases.CheckConflict(w, by) != api.OK {
			t.Error(by, e)
		}
		x, e := cases.Grow(w)
		if e != api.OK || cases.CheckTree(w, x) != api.OK {
			t.Error(e)
		}
		if l, e := cases.Left(w); len(l) > 0 || e != api.ErrChronology {
			t.Error(l, e)
		}
	}
}

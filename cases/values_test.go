package cases_test

import (
	"math/rand/v2"
	"slices"
	"testing"

	"gyttja/api"
	"gyttja/cases"
)

func run(lo, hi int) api.Run { return api.Run{Lo: lo, Hi: hi} }

func runs(l ...api.Run) []api.Run { return l }

var everything = run(-far, far)

// one has a question whose choices say that 2 lies lo to hi years below 1.
func one(l ...api.Run) api.World {
	q := api.Question{By: 1}
	for _, r := range l {
		q.Choices = append(q.Choices, claims(claim(1, 2, r.Lo, r.Hi, 1)))
	}
	return world(nil, q)
}

// P5.3: values as runs in normal form, and their ends.
func TestValues(t *testing.T) {
	half := world(nil, question(1, claims(claim(1, 2, 3, 4, 1)), nil))
	for name, c := range map[string]struct {
		w    api.World
		a, b int
		want []api.Run
	}{
		"the example":                    {example(), 0, 6, runs(run(13, 15), run(18, 21))},
		"the example, from 5":            {example(), 5, 6, runs(run(3, 3), run(8, 9))},
		"the example, back":              {example(), 6, 0, runs(run(-21, -18), run(-15, -13))},
		"the example, to 5":              {example(), 0, 5, runs(run(10, 12))},
		"without a question":             {world(chainOf(4, 1)), 4, 1, runs(run(-15, 0))},
		"one mark":                       {example(), 5, 5, runs(run(0, 0))},
		"the datum":                      {example(), 0, 0, runs(run(0, 0))},
		"a mark that is not in all":      {loose(), 8, 8, runs(run(0, 0))},
		"marks that are not tied in all": {loose(), 5, 3, runs(everything)},
		"marks that are never tied":      {loose(), 8, 5, runs(everything)},
		"marks that never meet":          {loose(), 4, 8, runs(everything)},
		"marks that do not occur in all": {half, 1, 2, runs(everything)},
		"marks that always are tied":     {loose(), 5, 6, runs(run(1, 2))},
		"without a source":               {cases.Without(example(), []int{2}), 0, 6, runs(everything)},
		"runs that touch":                {one(run(3, 3), run(1, 2)), 1, 2, runs(run(1, 3))},
		"runs with a gap of one year":    {one(run(4, 5), run(1, 2)), 1, 2, runs(run(1, 2), run(4, 5))},
		"runs that overlap":              {one(run(1, 6), run(4, 9)), 1, 2, runs(run(1, 9))},
		"a run within another one":       {one(run(1, 9), run(2, 3), run(10, 10)), 1, 2, runs(run(1, 10))},
		"runs that begin alike":          {one(run(1, 2), run(1, 9), run(1, 3), run(10, 11)), 1, 2, runs(run(1, 11))},
		"the same run":                   {one(run(1, 2), run(1, 2), run(1, 2)), 1, 2, runs(run(1, 2))},
		"runs in another order":          {one(run(7, 8), run(-5, -4), run(3, 3), run(-1, 1)), 1, 2, runs(run(-5, -4), run(-1, 1), run(3, 3), run(7, 8))},
		"as far as may be":               {one(run(100000, 100000), run(-100000, -100000)), 1, 2, runs(run(-100000, -100000), run(100000, 100000))},
	} {
		v, e := cases.Values(c.w, c.a, c.b)
		if !slices.Equal(v, c.want) || e != api.OK {
			t.Error(name, v, e)
		}
		lo, hi, e := cases.Bounds(c.w, c.a, c.b)
		if lo != c.want[0].Lo || hi != c.want[len(c.want)-1].Hi || e != api.OK {
			t.Error(name, lo, hi, e)
		}
		for _, r := range c.want {
			for n, want := range map[int]bool{r.Lo: true, r.Hi: true, r.Lo - 1: false, r.Hi + 1: false} {
				if is, e := cases.Has(c.w, c.a, c.b, n); is != want || e != api.OK {
					t.Error(name, n, is, e)
				}
			}
		}
	}
}

// P5.3: Has of numbers far away, and in a gap.
func TestHas(t *testing.T) {
	for _, n := range extremes {
		if is, e := cases.Has(example(), 0, 6, n); is || e != api.OK {
			t.Error(n, is, e)
		}
		if is, e := cases.Has(loose(), 8, 5, n); is != (-far <= n && n <= far) || e != api.OK {
			t.Error(n, is, e)
		}
	}
	for n, want := range map[int]bool{12: false, 13: true, 14: true, 15: true, 16: false, 17: false, 18: true, 20: true, 21: true, 22: false} {
		if is, e := cases.Has(example(), 0, 6, n); is != want || e != api.OK {
			t.Error(n, is, e)
		}
	}
}

// P5.3, P5.4, R1: functions of two marks have ErrMark ahead of ErrChronology.
func TestMarkErrors(t *testing.T) {
	for _, c := range []struct {
		w    api.World
		a, b int
		e    api.Errno
	}{
		{api.World{}, 0, 0, api.ErrMark}, {example(), 0, 7, api.ErrMark}, {example(), 7, 0, api.ErrMark}, {example(), 7, 7, api.ErrMark}, {example(), -1, 0, api.ErrMark},
		{example(), 0, 2049, api.ErrMark}, {example(), extremes[0], 0, api.ErrMark}, {loose(), 0, 7, api.ErrMark}, {world(nil, open(1, 2)), 0, 0, api.ErrMark},
		{broken(), 0, 7, api.ErrMark}, {broken(), 9, 5, api.ErrMark}, {broken(), 0, 6, api.ErrChronology}, {broken(), 6, 5, api.ErrChronology}, {broken(), 0, 0, api.ErrChronology},
		{world(broken().Claims, example().Questions[0]), 6, 6, api.ErrChronology},
	} {
		if v, e := cases.Values(c.w, c.a, c.b); len(v) > 0 || e != c.e {
			t.Error("Values", c, v, e)
		}
		if lo, hi, e := cases.Bounds(c.w, c.a, c.b); lo != 0 || hi != 0 || e != c.e {
			t.Error("Bounds", c, lo, hi, e)
		}
		for _, years := range extremes {
			if is, e := cases.Has(c.w, c.a, c.b, years); is || e != c.e {
				t.Error("Has", c, years, is, e)
			}
			if choices, d, e := cases.Attain(c.w, c.a, c.b, years); len(choices) > 0 || len(d) > 0 || e != c.e {
				t.Error("Attain", c, years, choices, d, e)
			}
		}
	}
}

// possible has the numbers of years between two marks in the chronologies of all leaves, of which the oracle tries all; free if a leaf does not tie them.
func possible(w api.World, a, b int) (has map[int]bool, free bool) {
	has = map[int]bool{}
	for _, way := range leavesOf(w) {
		l := behind(w, way)
		if !slices.Contains(tiedTo(l, a), b) {
			return nil, true
		}
		for _, years := range all(l) {
			has[years[b]-years[a]] = true
		}
	}
	return has, false
}

// inRuns reports whether a number is in runs.
func inRuns(l []api.Run, n int) bool {
	return slices.ContainsFunc(l, func(r api.Run) bool { return r.Lo <= n && n <= r.Hi })
}

func areNormal(l []api.Run) bool {
	for i, r := range l {
		if r.Lo > r.Hi || i > 0 && r.Lo < l[i-1].Hi+2 {
			return false
		}
	}
	return len(l) > 0
}

// P5.3, P5.6: Values has exactly the numbers of years in chronologies, in normal form; Bounds and Has agree with it.
func TestValuesAreExact(t *testing.T) {
	d := dice(31)
	tried, gaps := 0, 0
	for range 400 {
		w := someWorld(d)
		for _, a := range marksOf(w) {
			for _, b := range marksOf(w) {
				v, e := cases.Values(w, a, b)
				lo, hi, f := cases.Bounds(w, a, b)
				if len(leavesOf(w)) == 0 {
					if len(v) > 0 || lo != 0 || hi != 0 || e != api.ErrChronology || f != e {
						t.Fatal(w, a, b, v, e)
					}
					continue
				}
				if e != api.OK || f != api.OK || !areNormal(v) || lo != v[0].Lo || hi != v[len(v)-1].Hi {
					t.Fatal(w, a, b, v, e)
				}
				has, free := possible(w, a, b)
				if free != slices.Equal(v, runs(everything)) {
					t.Fatal(w, a, b, v)
				}
				for n := -20; n <= 20; n++ {
					is, e := cases.Has(w, a, b, n)
					if is != (free || has[n]) || is != inRuns(v, n) || e != api.OK {
						t.Fatal(w, a, b, n, v)
					}
				}
				tried++
				gaps += len(v) - 1
			}
		}
	}
	if tried < 1000 || gaps < 30 {
		t.Error("too little was tried", tried, gaps)
	}
}

// P5.6: whatever chronology is chosen, its years between two marks are one of Values.
func TestChronologiesHaveValues(t *testing.T) {
	d := dice(32)
	for range 300 {
		w := someWorld(d)
		_, years, e := cases.Chronology(w, []int{d.IntN(99), d.IntN(99), d.IntN(99), d.IntN(99)})
		if e != api.OK {
			continue
		}
		for _, x := range years {
			for _, y := range years {
				if is, e := cases.Has(w, x.Mark, y.Mark, y.Year-x.Year); !is || e != api.OK {
					t.Fatal(w, years, e)
				}
			}
		}
	}
}

// twoMarks are marks that a world has, or none.
func twoMarks(d *rand.Rand, w api.World) (a, b int, ok bool) {
	marks := marksOf(w)
	if len(marks) == 0 {
		return 0, 0, false
	}
	return marks[d.IntN(len(marks))], marks[d.IntN(len(marks))], true
}

// within reports whether all years of some runs are among others.
func within(l, m []api.Run) bool {
	return !slices.ContainsFunc(l, func(r api.Run) bool {
		return !slices.ContainsFunc(m, func(s api.Run) bool { return s.Lo <= r.Lo && r.Hi <= s.Hi })
	})
}

// P5.8: without a source, each number stays, if there still are such marks.
func TestLessIsKnown(t *testing.T) {
	d := dice(33)
	tried, wider := 0, 0
	for range 600 {
		w := someWorld(d)
		a, b, ok := twoMarks(d, w)
		before, e := cases.Values(w, a, b)
		if !ok || e != api.OK {
			continue
		}
		for _, source := range cases.Sources(w) {
			after, e := cases.Values(cases.Without(w, []int{source}), a, b)
			if e == api.ErrMark {
				continue
			}
			if e != api.OK || !within(before, after) {
				t.Fatal(w, source, a, b, before, after, e)
			}
			tried++
			if !within(after, before) {
				wider++
			}
		}
	}
	if tried < 200 || wider < 50 {
		t.Error("too little was tried", tried, wider)
	}
}

// P5.8: a choice that is taken for certain adds no number, and all choices together have all numbers.
func TestCertainChoices(t *testing.T) {
	d := dice(34)
	tried, less := 0, 0
	for range 600 {
		w := someWorld(d)
		a, b, ok := twoMarks(d, w)
		whole, e := cases.Values(w, a, b)
		if !ok || e != api.OK {
			continue
		}
		for i, q := range w.Questions {
			var together []api.Run
			for _, l := range q.Choices {
				certain := world(slices.Concat(w.Claims, l), slices.Delete(slices.Clone(w.Questions), i, i+1)...)
				v, e := cases.Values(certain, a, b)
				switch {
				case e == api.ErrChronology:
					continue
				case e == api.ErrMark: // such marks are left to nothing
					v = runs(everything)
					if a == b {
						v = runs(run(0, 0))
					}
					if len(leavesOf(certain)) == 0 {
						continue
					}
				case e != api.OK:
					t.Fatal(certain, e)
				}
				if !within(v, whole) {
					t.Fatal(w, i, l, v, whole)
				}
				together = append(together, v...)
				tried++
				if !within(whole, v) {
					less++
				}
			}
			for _, r := range whole {
				for n := max(r.Lo, -20); n <= min(r.Hi, 20); n++ {
					if !inRuns(together, n) {
						t.Fatal(w, i, n, whole, together)
					}
				}
				if !inRuns(together, r.Lo) || !inRuns(together, r.Hi) {
					t.Fatal(w, i, r, together)
				}
			}
		}
	}
	if tried < 200 || less < 50 {
		t.Error("too little was tried", tried, less)
	}
}

package plan_test

import (
	"testing"

	"gyttja/api"
	"gyttja/cases"
	"gyttja/plan"
)

// dear is a world with a claim at the limit of claims: counts of the mark 1 above 99990 and an error say too much. The mark 2 lies at the mark 1, and in one choice that many counts allow nothing ties the mark 3.
func dear() api.World {
	return world(claims(claim(0, 1, 99980, 100000, 1), claim(1, 2, 0, 0, 1)), question(2,
		claims(claim(0, 3, 5, 6, 2)), claims(claim(0, 1, 99990, 99992, 2))))
}

// P9.1: the worst case of pieces, and the least count with it.
func TestWorst(t *testing.T) {
	w, q, p, r := example()
	steps := func(hi int) api.World { return world(claims(claim(0, 1, 1, hi, 1), claim(1, 2, 3, 3, 1))) }
	aside := world(nil, question(1, claims(claim(0, 1, 0, 2, 1), claim(7, 8, 0, 3, 1)), claims(claim(0, 1, 10, 12, 1), claim(7, 8, 5, 9, 1))))
	for name, c := range map[string]struct {
		w    api.World
		p    api.Piece
		q    api.Ask
		want api.Plan
		e    api.Errno
	}{
		"the example":                          {w, p, q, api.Plan{Worst: 13, Outcome: 1}, api.OK},
		"the example, over both":               {w, r, q, api.Plan{Worst: 7, Outcome: 3}, api.OK},
		"without an error":                     {w, piece(0, 2, 0, 0), q, api.Plan{Worst: 1}, api.OK},
		"from below":                           {w, piece(2, 0, 3, 0), ask(2, 0), api.Plan{Worst: 7, Outcome: -17}, api.OK},
		"another way round":                    {w, piece(1, 0, 1, 0), q, api.Plan{Worst: 13, Outcome: -9}, api.OK},
		"what is not asked":                    {w, piece(1, 2, 1, 0), ask(0, 1), api.Plan{Worst: 11, Outcome: -1}, api.OK},
		"the greatest error":                   {w, piece(0, 1, 50, 0), q, api.Plan{Worst: 21, Outcome: -40}, api.OK},
		"leaves that lie apart":                {gapped(), piece(0, 1, 0, 0), ask(0, 2), api.Plan{Worst: 1, Outcome: 10}, api.OK},
		"leaves that one count allows":         {gapped(), piece(0, 1, 5, 0), ask(0, 2), api.Plan{Worst: 4, Outcome: 15}, api.OK},
		"a count that tells the choice alone":  {aside, piece(0, 1, 0, 0), ask(7, 8), api.Plan{Worst: 5, Outcome: 10}, api.OK},
		"a count that leaves both choices":     {aside, piece(0, 1, 5, 0), ask(7, 8), api.Plan{Worst: 9, Outcome: 5}, api.OK},
		"400 counts":                           {steps(400), piece(0, 1, 0, 0), ask(0, 2), api.Plan{Worst: 1, Outcome: 1}, api.OK},
		"401 counts":                           {steps(401), piece(0, 1, 0, 0), ask(0, 2), api.Plan{}, api.ErrLong},
		"400 counts with the error":            {steps(300), piece(0, 1, 50, 0), ask(0, 2), api.Plan{Worst: 101, Outcome: 51}, api.OK},
		"401 counts with the error":            {steps(301), piece(0, 1, 50, 0), ask(0, 2), api.Plan{}, api.ErrLong},
		"a piece that is not tied":             {torn(), piece(0, 3, 0, 0), q, api.Plan{}, api.ErrFar},
		"a piece that is not tied, and no ask": {torn(), piece(0, 3, 0, 0), ask(0, 4), api.Plan{}, api.ErrMark},
		"an ask that is not tied":              {torn(), piece(0, 1, 0, 0), ask(0, 3), api.Plan{}, api.ErrFar},
		"no such mark of the piece":            {w, piece(0, 3, 0, 0), q, api.Plan{}, api.ErrMark},
		"no such mark of the ask":              {w, p, ask(3, 0), api.Plan{}, api.ErrMark},
		"no chronology":                        {broken(), p, q, api.Plan{}, api.ErrChronology},
		"no chronology, no mark of the ask":    {broken(), p, ask(0, 3), api.Plan{}, api.ErrChronology},
		"no chronology, no mark of the piece":  {broken(), piece(3, 0, 0, 0), q, api.Plan{}, api.ErrMark},
		"the last room":                        {full(397), p, q, api.Plan{Worst: 13, Outcome: 1}, api.OK},
		"no room":                              {full(398), p, q, api.Plan{}, api.ErrLong},
		"no room, and no mark of the ask":      {full(398), p, ask(0, 3), api.Plan{}, api.ErrMark},
		"no room, and no count with a claim":   {with(full(397), claim(2, 3, 99999, 100000, 1)), piece(2, 3, 50, 0), q, api.Plan{}, api.ErrLong},
		"no room, and the first count is far":  {with(full(397), claim(2, 3, 100000, 100000, 1)), piece(2, 3, 0, 0), q, api.Plan{}, api.ErrLong},
		"no room, and the first claim is far":  {with(full(397), claim(3, 2, -100000, -99999, 1)), piece(3, 2, 50, 0), q, api.Plan{}, api.ErrOutcome},
		"no room, and nothing ties the ask":    {with(full(396), claim(7, 8, 0, 0, 1), claim(7, 8, 0, 0, 1)), p, ask(0, 7), api.Plan{}, api.ErrLong},
		"the last claims are too far":          {dear(), piece(0, 1, 1, 0), ask(0, 2), api.Plan{}, api.ErrOutcome},
		"the first claims are too far":         {dear(), piece(1, 0, 1, 0), ask(0, 2), api.Plan{}, api.ErrOutcome},
		"as far as claims may":                 {dear(), piece(0, 1, 0, 0), ask(0, 2), api.Plan{Worst: 1, Outcome: 99980}, api.OK},
		"not tied, ahead of claims too far":    {dear(), piece(0, 1, 1, 0), ask(0, 3), api.Plan{}, api.ErrFar},
		"claims too far, ahead of not tied":    {dear(), piece(1, 0, 1, 0), ask(0, 3), api.Plan{}, api.ErrOutcome},
	} {
		if x, e := plan.Worst(c.w, c.p, c.q); x != c.want || e != c.e {
			t.Error(name, x, e)
		}
		count, low, high, e := plan.Sure(c.w, c.p, c.q)
		if count != c.want.Outcome || e != c.e || (len(low) > 0) != (e == api.OK) || (len(high) > 0) != (e == api.OK) {
			t.Error("Sure", name, count, low, high, e)
		}
	}
}

// P9.1, R1: Worst is as the chapter describes it, also in worlds where it has errors.
func TestWorstAsDescribed(t *testing.T) {
	d := dice(3)
	told := map[api.Errno]int{}
	for range 1500 {
		w, p, q := wildWorld(d), somePiece(d), someAsk(d)
		if d.IntN(20) == 0 {
			q.B = 9
		}
		want, due := plainWorst(w, p, q)
		x, e := plan.Worst(w, p, q)
		if x != want || e != due {
			t.Fatal(w, p, q, x, e, want, due)
		}
		told[e]++
	}
	for _, e := range []api.Errno{api.OK, api.ErrLong, api.ErrMark, api.ErrFar, api.ErrOutcome} {
		if told[e] < 10 {
			t.Error(e, told)
		}
	}
}

// P9.3: whatever the truth is and the reader's error, the question is no wider than Worst says; with some it is as wide. The first count with which it is so is told.
func TestWorstCase(t *testing.T) {
	d := dice(4)
	for range 300 {
		w, p, q := tiedWorld(d), somePiece(d), someAsk(d)
		x, e := plan.Worst(w, p, q)
		if e != api.OK {
			t.Fatal(w, p, q, e)
		}
		widest, widths := 0, map[int]int{}
		for _, truth := range chronologies(w) {
			for miss := -p.Miss; miss <= p.Miss; miss++ {
				count := truth.between(p.A, p.B) + miss
				if widths[count] == 0 {
					widths[count] = first(plan.Width(first(plan.After(w, p, count)), q))
				}
				widest = max(widest, widths[count])
			}
		}
		if widest != x.Worst || widths[x.Outcome] != x.Worst {
			t.Fatal(w, p, q, x, widths)
		}
		for count, width := range widths {
			if width == x.Worst && count < x.Outcome {
				t.Fatal(w, p, q, x, widths)
			}
		}
		if want := oracle(chronologies(w)).worst(p, q); x != want {
			t.Fatal(w, p, q, x, want)
		}
	}
}

// P9.3: likewise where counts and what is asked have nothing to do with each other but for the choices of a question.
func TestAside(t *testing.T) {
	d := dice(16)
	for range 100 {
		w, p, q := asideWorld(d), piece(0, 2, d.IntN(3), 0), ask(7, 8)
		l := pieces(p, piece(2, 0, d.IntN(2), 1), piece(8, 7, 1+d.IntN(2), 2))
		o := oracle(chronologies(w))
		if x, e := plan.Worst(w, p, q); x != o.worst(p, q) || e != api.OK {
			t.Fatal(w, p, q, x, o.worst(p, q), e)
		}
		if x, e := plan.Best(w, l, q); x != first(plainBest(w, l, q)) || e != api.OK {
			t.Fatal(w, l, q, x, e)
		}
		if x, e := plan.Two(w, l, q); x != first(plainTwo(w, l, q)) || e != api.OK {
			t.Fatal(w, l, q, x, e)
		}
	}
}

// P9.1, P9.3: the chronologies of Sure are some of the world, and of that behind the count; in them the question has its least and its greatest number of years.
func TestSure(t *testing.T) {
	d := dice(5)
	for range 400 {
		w, p, q := wildWorld(d), somePiece(d), someAsk(d)
		x, due := plan.Worst(w, p, q)
		count, low, high, e := plan.Sure(w, p, q)
		if e != due || count != x.Outcome {
			t.Fatal(w, p, q, count, e)
		}
		if e != api.OK {
			if len(low) > 0 || len(high) > 0 {
				t.Fatal(low, high)
			}
			continue
		}
		behind := first(plan.After(w, p, count))
		lo, hi, _ := cases.Bounds(behind, q.A, q.B)
		if yearsBetween(low, q.A, q.B) != lo || yearsBetween(high, q.A, q.B) != hi {
			t.Fatal(w, p, q, low, high, lo, hi)
		}
		if !isChronology(w, low) || !isChronology(w, high) || !isChronology(behind, low) || !isChronology(behind, high) {
			t.Fatal(w, p, q, low, high)
		}
	}
	w, q, p, _ := example()
	if count, low, high, e := plan.Sure(w, p, q); count != 1 || yearsBetween(low, 0, 2) != 0 || yearsBetween(high, 0, 2) != 12 || e != api.OK {
		t.Error(count, low, high, e)
	}
}

// P9.5: behind a count the years of each question are among those before; together, behind all counts, they are all of them. So Worst is at most Width.
func TestNarrowing(t *testing.T) {
	d := dice(6)
	for range 300 {
		w, p, q := tiedWorld(d), somePiece(d), someAsk(d)
		before := map[int]bool{}
		for _, n := range numbers(first(cases.Values(w, q.A, q.B))) {
			before[n] = true
		}
		behind := map[int]bool{}
		for _, count := range numbers(first(plan.Outcomes(w, p))) {
			for _, n := range numbers(first(cases.Values(first(plan.After(w, p, count)), q.A, q.B))) {
				behind[n] = true
				if !before[n] {
					t.Fatal(w, p, q, count, n)
				}
			}
		}
		x, _ := plan.Worst(w, p, q)
		if n, _ := plan.Width(w, q); len(behind) != len(before) || n != len(before) || x.Worst > n {
			t.Fatal(w, p, q, behind, before, x, n)
		}
	}
}

// P9.6: with a lesser error the worst case is no wider.
func TestLesserMiss(t *testing.T) {
	d := dice(7)
	for range 300 {
		w, p, q := tiedWorld(d), somePiece(d), someAsk(d)
		last := 0
		for p.Miss = range 8 {
			x, e := plan.Worst(w, p, q)
			if e != api.OK || x.Worst < last {
				t.Fatal(w, p, q, x, last, e)
			}
			last = x.Worst
		}
	}
}

package plan_test

import (
	"math"
	"slices"
	"testing"

	"gyttja/api"
	"gyttja/cases"
	"gyttja/plan"
	"gyttja/years"
)

// P9.1: pieces that are valid, up to the limits, and not beyond.
func TestCheckPiece(t *testing.T) {
	for _, p := range goodPieces() {
		if e := plan.CheckPiece(p); e != api.OK {
			t.Error(p, e)
		}
	}
	for _, p := range badPieces() {
		if e := plan.CheckPiece(p); e != api.ErrPlan {
			t.Error(p, e)
		}
	}
}

// P9.1, R2: what a count says, up to the limits of claims, and not beyond.
func TestClaim(t *testing.T) {
	p, far := piece(3, 2048, 50, 9), piece(3, 2048, 0, 9)
	for _, c := range []struct {
		p         api.Piece
		count, by int
		want      api.Claim
		e         api.Errno
	}{
		{piece(0, 1, 1, 5), 7, 3, claim(0, 1, 6, 8, 3), api.OK},
		{piece(1, 0, 0, 5), -7, 1, claim(1, 0, -7, -7, 1), api.OK},
		{p, 0, 99999, claim(3, 2048, -50, 50, 99999), api.OK},
		{p, 99950, 1, claim(3, 2048, 99900, 100000, 1), api.OK},
		{p, -99950, 1, claim(3, 2048, -100000, -99900, 1), api.OK},
		{far, 100000, 1, claim(3, 2048, 100000, 100000, 1), api.OK},
		{p, 99951, 1, api.Claim{}, api.ErrArg},
		{p, -99951, 1, api.Claim{}, api.ErrArg},
		{far, 100001, 1, api.Claim{}, api.ErrArg},
		{far, -100001, 1, api.Claim{}, api.ErrArg},
		{p, 0, 0, api.Claim{}, api.ErrArg},
		{p, 0, -1, api.Claim{}, api.ErrArg},
		{p, 0, 100000, api.Claim{}, api.ErrArg},
		{p, math.MaxInt, 1, api.Claim{}, api.ErrArg},
		{p, math.MinInt, 1, api.Claim{}, api.ErrArg},
		{far, math.MaxInt, 1, api.Claim{}, api.ErrArg},
		{far, math.MinInt, 1, api.Claim{}, api.ErrArg},
		{piece(1, 1, 0, 0), 0, 1, api.Claim{}, api.ErrPlan},
		{piece(1, 2, 51, 0), 0, 0, api.Claim{}, api.ErrPlan},
		{piece(1, 2, 0, -1), math.MaxInt, 1, api.Claim{}, api.ErrPlan},
	} {
		if x, e := plan.Claim(c.p, c.count, c.by); x != c.want || e != c.e {
			t.Error(c, x, e)
		}
	}
}

// P9.1: the possible counts of pieces, in worlds with and without gaps, and without end.
func TestOutcomes(t *testing.T) {
	w, _, p, r := example()
	for name, c := range map[string]struct {
		w    api.World
		p    api.Piece
		want []api.Run
	}{
		"the example":                 {w, p, runs(-1, 11)},
		"the example, over both":      {w, r, runs(-3, 23)},
		"without an error":            {w, piece(0, 2, 0, 0), runs(0, 20)},
		"from below":                  {w, piece(2, 0, 2, 0), runs(-22, 2)},
		"leaves that lie apart":       {gapped(), piece(0, 1, 3, 0), runs(7, 15, 17, 24)},
		"leaves that come to touch":   {gapped(), piece(0, 1, 4, 0), runs(6, 25)},
		"one year":                    {gapped(), piece(2, 1, 0, 0), runs(-3, -3)},
		"not tied in all leaves":      {torn(), piece(0, 3, 5, 0), runs(-far, far)},
		"tied in all leaves":          {torn(), piece(0, 1, 0, 0), runs(0, 1, 4, 5, 8, 9)},
		"the greatest error":          {w, piece(0, 1, 50, 0), runs(-50, 60)},
		"as far apart as a claim may": {world(claims(claim(0, 1, 100000, 100000, 1))), piece(0, 1, 50, 0), runs(99950, 100050)},
	} {
		if l, e := plan.Outcomes(c.w, c.p); !slices.Equal(l, c.want) || e != api.OK {
			t.Error(name, l, e)
		}
	}
}

// P9.1: the claim of the world behind a count is its last one, of the least source that is free.
func TestAfter(t *testing.T) {
	w, _, p, _ := example()
	for name, c := range map[string]struct {
		w     api.World
		p     api.Piece
		count int
		by    int // of the claim, if e is OK
		e     api.Errno
	}{
		"the example":                        {w, p, 4, 2, api.OK},
		"the least count":                    {w, p, -1, 2, api.OK},
		"the greatest count":                 {w, p, 11, 2, api.OK},
		"too small":                          {w, p, -2, 0, api.ErrOutcome},
		"too great":                          {w, p, 12, 0, api.ErrOutcome},
		"far too great":                      {w, p, math.MaxInt, 0, api.ErrOutcome},
		"far too small":                      {w, p, math.MinInt, 0, api.ErrOutcome},
		"a gap in the sources":               {with(w, claim(0, 1, 0, 9, 4), claim(0, 1, 0, 9, 2)), p, 4, 3, api.OK},
		"the first source":                   {world(claims(claim(0, 1, 0, 9, 2), claim(0, 1, 0, 9, 99999))), p, 4, 1, api.OK},
		"sources of questions":               {world(claims(claim(0, 1, 0, 9, 3)), question(2, nil), question(1, nil, nil), question(4, nil)), p, 4, 5, api.OK},
		"many sources":                       {full(397), p, 4, 399, api.OK},
		"no room":                            {full(398), p, 4, 0, api.ErrLong},
		"the last room":                      {with(full(396), claim(1, 2, 0, 10, 1)), p, 4, 398, api.OK},
		"no room, and not possible":          {full(398), p, 12, 0, api.ErrOutcome},
		"in a gap":                           {gapped(), piece(0, 1, 3, 0), 16, 0, api.ErrOutcome},
		"beside a gap":                       {gapped(), piece(0, 1, 3, 0), 17, 2, api.OK},
		"marks that nothing ties":            {torn(), piece(0, 3, 0, 0), 100000, 2, api.OK},
		"not tied, and too far":              {torn(), piece(0, 3, 0, 0), 100001, 0, api.ErrOutcome},
		"not tied, and too far with the end": {torn(), piece(3, 0, 50, 0), -99951, 0, api.ErrOutcome},
		"possible, but too far for a claim":  {world(claims(claim(0, 1, 99999, 100000, 1))), piece(0, 1, 1, 0), 100000, 0, api.ErrOutcome},
		"too far, and no room":               {world(slices.Repeat(claims(claim(0, 1, 99999, 100000, 1)), 400)), piece(0, 1, 1, 0), 100000, 0, api.ErrOutcome},
		"as far as a claim may":              {world(claims(claim(0, 1, 99999, 100000, 1))), piece(0, 1, 1, 0), 99999, 2, api.OK},
	} {
		behind, e := plan.After(c.w, c.p, c.count)
		want := api.World{}
		if c.e == api.OK {
			want = with(c.w, claim(c.p.A, c.p.B, c.count-c.p.Miss, c.count+c.p.Miss, c.by))
		}
		if e != c.e || !sameWorlds(behind, want) {
			t.Error(name, behind.Claims, e)
		}
	}
	crowded := torn()
	crowded.Claims = full(396).Claims
	if _, e := plan.After(crowded, p, 4); e != api.ErrLong { // its question has choices of two claims
		t.Error(e)
	}
}

// P9.1: how many years may be asked for.
func TestWidth(t *testing.T) {
	w, q, _, _ := example()
	for name, c := range map[string]struct {
		w    api.World
		q    api.Ask
		want int
		e    api.Errno
	}{
		"the example":            {w, q, 21, api.OK},
		"from below":             {w, ask(2, 1), 11, api.OK},
		"leaves that lie apart":  {gapped(), ask(0, 1), 5, api.OK},
		"one year":               {gapped(), ask(2, 1), 1, api.OK},
		"not tied in all leaves": {torn(), ask(0, 3), 0, api.ErrFar},
		"no such mark":           {w, ask(0, 3), 0, api.ErrMark},
		"no chronology":          {broken(), q, 0, api.ErrChronology},
		"one mark":               {broken(), ask(2, 2), 0, api.ErrPlan},
	} {
		if n, e := plan.Width(c.w, c.q); n != c.want || e != c.e {
			t.Error(name, n, e)
		}
	}
}

// P9.1, P9.2: the possible counts are those that some chronology allows, and the world behind each has just these chronologies; behind any other count there is none.
func TestCountsByChronologies(t *testing.T) {
	d := dice(1)
	for range 400 {
		w, p, q := tiedWorld(d), somePiece(d), someAsk(d)
		o := oracle(chronologies(w))
		counts := numbers(first(plan.Outcomes(w, p)))
		if !slices.Equal(counts, o.counts(p)) {
			t.Fatal(w, p, counts, o.counts(p))
		}
		for count := -20; count <= 20; count++ {
			behind, e := plan.After(w, p, count)
			c, _ := plan.Claim(p, count, 9)
			leaves, _ := cases.Leaves(with(w, c))
			if possible := slices.Contains(counts, count); possible != (e == api.OK) || possible != (len(leaves) > 0) {
				t.Fatal(w, p, count, e, leaves)
			}
			if e != api.OK {
				continue
			}
			values := o.behind(p, count).values(q)
			if l := numbers(first(cases.Values(behind, q.A, q.B))); !slices.Equal(l, values) {
				t.Fatal(w, p, count, q, l, values)
			}
			if n, e := plan.Width(behind, q); n != len(values) || e != api.OK {
				t.Fatal(w, p, count, q, n, e)
			}
		}
	}
}

// P9.2: likewise of marks that nothing may tie, and of claims at the limits.
func TestPossible(t *testing.T) {
	d := dice(2)
	for range 300 {
		w, p := wildWorld(d), somePiece(d)
		counts, e := plan.Outcomes(w, p)
		if e != api.OK {
			continue
		}
		l := []int{-100001, -100000, -99999, -99997, 99997, 99999, 100000, 100001, d.IntN(40) - 20}
		for _, r := range counts {
			l = append(l, r.Lo-1, r.Lo, r.Hi, r.Hi+1)
		}
		for _, count := range l {
			c, e := plan.Claim(p, count, 9)
			_, after := plan.After(w, p, count)
			if e != api.OK {
				if after != api.ErrOutcome {
					t.Error(w, p, count, after)
				}
				continue
			}
			leaves, long := cases.Leaves(with(w, c))
			if long != api.OK {
				if want := map[bool]api.Errno{true: api.ErrLong, false: api.ErrOutcome}[years.Has(counts, count)]; after != want {
					t.Error(w, p, count, after)
				}
				continue
			}
			if (after == api.OK) != (len(leaves) > 0) || (after == api.OK) != years.Has(counts, count) {
				t.Error(w, p, count, after, leaves)
			}
		}
	}
}

package plan_test

import (
	"math"
	"slices"
	"testing"

	"gyttja/api"
	"gyttja/plan"
	"gyttja/years"
)

// P9.1: the counts with each choice of a question.
func TestSplit(t *testing.T) {
	w, _, p, _ := example()
	w.Questions = []api.Question{question(7, claims(claim(0, 1, 2, 3, 7)), claims(claim(0, 1, 50, 60, 7)), nil)}
	far := runs(-far, far)
	loose := world(claims(claim(1, 2, 3, 3, 1)), question(2, nil, claims(claim(0, 1, 5, 6, 2))), question(3, claims(claim(2, 3, 1, 1, 3)), claims(claim(2, 4, 1, 1, 3))))
	for name, c := range map[string]struct {
		w        api.World
		p        api.Piece
		question int
		want     [][]api.Run
	}{
		"a choice that cannot be":          {w, p, 0, [][]api.Run{runs(1, 4), nil, runs(-1, 11)}},
		"a question of another piece":      {w, piece(2, 1, 0, 0), 0, [][]api.Run{runs(-10, 0), nil, runs(-10, 0)}},
		"marks that nothing ties":          {loose, piece(0, 2, 1, 0), 0, [][]api.Run{far, runs(7, 10)}},
		"in some case nothing ties them":   {loose, piece(0, 2, 1, 0), 1, [][]api.Run{far, far}},
		"a mark that is not there":         {loose, piece(2, 3, 0, 0), 1, [][]api.Run{runs(1, 1), far}},
		"no mark of both":                  {loose, piece(4, 3, 2, 0), 1, [][]api.Run{far, far}},
		"gaps between other choices":       {world(claims(claim(1, 2, 0, 0, 1)), gapped().Questions[0], question(2, nil, claims(claim(0, 2, 11, 30, 2)), claims(claim(0, 2, 0, 10, 2)))), piece(0, 2, 0, 0), 1, [][]api.Run{runs(10, 12, 20, 21), runs(11, 12, 20, 21), runs(10, 10)}},
		"gaps that the error of one fills": {world(claims(claim(1, 2, 0, 0, 1)), gapped().Questions[0], question(2, nil)), piece(0, 2, 4, 0), 1, [][]api.Run{runs(6, 25)}},
	} {
		l, e := plan.Split(c.w, c.p, c.question)
		if e != api.OK || !slices.EqualFunc(l, c.want, slices.Equal) {
			t.Error(name, l, e)
		}
	}
}

// P9.1, R1, R2: the errors of Outcomes are ahead of that of the question.
func TestSplitErrors(t *testing.T) {
	for name, c := range map[string]struct {
		w        api.World
		p        api.Piece
		question int
		e        api.Errno
	}{
		"no such question":                {torn(), piece(0, 1, 0, 0), 1, api.ErrArg},
		"no such question either":         {torn(), piece(0, 1, 0, 0), -1, api.ErrArg},
		"no question of any number":       {torn(), piece(0, 1, 0, 0), math.MinInt, api.ErrArg},
		"no questions":                    {full(0), piece(0, 1, 0, 0), 0, api.ErrArg},
		"no such question, no mark":       {torn(), piece(0, 4, 0, 0), 1, api.ErrMark},
		"no such question, no chronology": {broken(), piece(0, 1, 0, 0), 9, api.ErrChronology},
		"no such question, a bad world":   {full(399), piece(0, 1, 0, 0), 9, api.ErrLong},
		"a bad piece, a bad world":        {full(399), piece(0, 0, 0, 0), 9, api.ErrPlan},
	} {
		if l, e := plan.Split(c.w, c.p, c.question); len(l) > 0 || e != c.e {
			t.Error(name, l, e)
		}
	}
}

// chosen is a world that takes a choice of a question for certain.
func chosen(w api.World, at, choice int) api.World {
	w = copyOf(w)
	w.Questions[at].Choices = w.Questions[at].Choices[choice : choice+1]
	return w
}

// P9.1, P9.7: the counts of Split are those of the chronologies with each choice; together they are those of Outcomes.
func TestSplitByChronologies(t *testing.T) {
	d := dice(13)
	for range 400 {
		w, p := tiedWorld(d), somePiece(d)
		for at, q := range w.Questions {
			l, e := plan.Split(w, p, at)
			if e != api.OK || len(l) != len(q.Choices) {
				t.Fatal(w, p, at, l, e)
			}
			for choice := range q.Choices {
				if want := oracle(chronologies(chosen(w, at, choice))).counts(p); !slices.Equal(numbers(l[choice]), want) || years.CheckRuns(l[choice]) != api.OK {
					t.Fatal(w, p, at, choice, l[choice], want)
				}
			}
		}
	}
	for range 400 {
		w, p := someWorld(d), somePiece(d)
		for at := range w.Questions {
			l, e := plan.Split(w, p, at)
			if all := slices.Concat(l...); e != api.OK || !slices.Equal(years.Normal(all), first(plan.Outcomes(w, p))) {
				t.Fatal(w, p, at, l, e)
			}
		}
	}
}

// P9.1: pieces that are the same question, and such as look alike.
func TestAsks(t *testing.T) {
	w, _, p, r := example()
	moved := with(w, claim(1, 3, 4, 4, 2), claim(2, 4, 4, 4, 2))
	aside := world(claims(claim(1, 3, 4, 4, 1), claim(2, 4, 4, 4, 1)))
	one := claims(claim(0, 1, 5, 5, 1), claim(2, 3, 5, 5, 1))
	some := world(claims(claim(0, 1, 1, 3, 1)), question(2, claims(claim(0, 2, 0, 0, 2), claim(1, 3, 0, 0, 2)), claims(claim(0, 1, 2, 2, 2), claim(2, 3, 2, 2, 2)), claims(claim(2, 3, 9, 9, 2), claim(0, 1, 9, 9, 2))))
	other := some
	other.Questions = append(slices.Clone(some.Questions), question(3, nil, claims(claim(0, 2, 1, 1, 3)), claims(claim(0, 1, 5, 6, 3))))
	open := with(copyOf(some), claim(2, 3, 1, 3, 1))
	open.Questions[0].Choices[2] = claims(claim(0, 2, 0, 0, 2))
	for name, c := range map[string]struct {
		w    api.World
		p, r api.Piece
		want bool
	}{
		"the example":                       {w, p, r, false},
		"itself":                            {w, p, p, true},
		"itself with another error":         {w, p, piece(0, 1, 50, 0), true},
		"turned round":                      {w, p, piece(1, 0, 1, 5), false},
		"as wide as the other one":          {w, piece(0, 1, 0, 0), piece(1, 2, 0, 0), false},
		"moved":                             {moved, piece(1, 2, 0, 0), piece(3, 4, 2, 0), true},
		"moved, the other way":              {moved, piece(1, 3, 0, 0), piece(2, 4, 2, 0), true},
		"moved, turned round":               {moved, piece(2, 1, 0, 0), piece(4, 3, 2, 0), true},
		"moved, one of them turned round":   {moved, piece(1, 2, 0, 0), piece(4, 3, 2, 0), false},
		"not tied, but moved":               {aside, piece(1, 2, 0, 0), piece(3, 4, 0, 0), true},
		"not tied":                          {aside, piece(1, 2, 0, 0), piece(2, 4, 0, 0), false},
		"not tied, itself":                  {aside, piece(1, 2, 0, 0), piece(1, 2, 9, 0), true},
		"not tied, another last mark":       {aside, piece(1, 2, 0, 0), piece(1, 4, 0, 0), false},
		"one number of years":               {world(one), piece(0, 1, 0, 0), piece(2, 3, 0, 0), true},
		"one number of years, the negative": {world(one), piece(0, 1, 0, 0), piece(3, 2, 0, 0), false},
		"one year, turned round":            {world(claims(claim(0, 1, 0, 0, 1))), piece(0, 1, 0, 0), piece(1, 0, 0, 0), true},
		"the last mark is moved":            {world(claims(claim(0, 1, 2, 3, 1), claim(1, 2, 1, 1, 1))), piece(0, 1, 0, 0), piece(0, 2, 0, 0), false},
		"the last marks lie in one year":    {world(claims(claim(0, 1, 2, 3, 1), claim(1, 2, 0, 0, 1))), piece(0, 1, 0, 0), piece(0, 2, 0, 0), true},
		"the first marks lie in one year":   {world(claims(claim(0, 1, 2, 3, 1), claim(1, 2, 0, 0, 1))), piece(1, 0, 0, 0), piece(2, 0, 0, 0), true},
		"in all cases":                      {some, piece(0, 1, 0, 0), piece(2, 3, 0, 0), true},
		"in all cases that are left":        {other, piece(0, 1, 0, 0), piece(2, 3, 0, 0), true},
		"not in all cases":                  {open, piece(0, 1, 0, 0), piece(2, 3, 0, 0), false},
		"not where they are not tied":       {world(nil, question(1, one, one[:1])), piece(0, 1, 0, 0), piece(2, 3, 0, 0), false},
	} {
		if is, e := plan.Asks(c.w, c.p, c.r); is != c.want || e != api.OK {
			t.Error(name, is, e)
		}
		if is, e := plan.Asks(c.w, c.r, c.p); is != c.want || e != api.OK {
			t.Error(name, "exchanged", is, e)
		}
	}
}

// P9.1, R1, R2: both pieces first, then the world, the marks of the first, whether there is a chronology, the marks of the second.
func TestAsksErrors(t *testing.T) {
	w, _, p, r := example()
	lost, bad := piece(0, 3, 0, 0), piece(0, 0, 0, 0)
	for name, c := range map[string]struct {
		w    api.World
		p, r api.Piece
		e    api.Errno
	}{
		"the first is bad":                  {full(399), bad, p, api.ErrPlan},
		"the second is bad":                 {full(399), lost, bad, api.ErrPlan},
		"a bad world":                       {full(399), lost, p, api.ErrLong},
		"no mark of the first":              {broken(), lost, p, api.ErrMark},
		"no chronology, then no mark":       {broken(), p, lost, api.ErrChronology},
		"no chronology":                     {broken(), p, r, api.ErrChronology},
		"no mark of the second":             {w, p, lost, api.ErrMark},
		"no mark of the second, either one": {w, p, piece(3, 0, 0, 0), api.ErrMark},
	} {
		if is, e := plan.Asks(c.w, c.p, c.r); is || e != c.e {
			t.Error(name, is, e)
		}
	}
}

// P9.7: two pieces are the same question if they tell as many years in each chronology; then they have the same counts, and the same worst case.
func TestAsksByChronologies(t *testing.T) {
	d := dice(14)
	told := map[bool]int{}
	for range 3000 {
		w, p, r := someWorld(d), somePiece(d), somePiece(d)
		r.Miss = p.Miss
		want := true
		for _, x := range chronologies(w) {
			if x.between(p.A, p.B) != x.between(r.A, r.B) {
				want = false
				break
			}
		}
		is, e := plan.Asks(w, p, r)
		if is != want || e != api.OK {
			t.Fatal(w, p, r, is, want, e)
		}
		if p.A == r.A && p.B == r.B {
			continue
		}
		told[is]++
		if !is {
			continue
		}
		if l := first(plan.Outcomes(w, p)); !slices.Equal(l, first(plan.Outcomes(w, r))) {
			t.Fatal(w, p, r)
		}
		q := someAsk(d)
		x, e := plan.Worst(w, p, q)
		if y, f := plan.Worst(w, r, q); x != y || e != f {
			t.Fatal(w, p, r, q, x, y, e, f)
		}
	}
	if told[true] < 30 || told[false] < 30 {
		t.Error(told)
	}
}

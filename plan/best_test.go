package plan_test

import (
	"math"
	"slices"
	"testing"

	"gyttja/api"
	"gyttja/cases"
	"gyttja/plan"
)

// P9.1: the piece that leaves the least; of several the one with the least cost, then the first one.
func TestBest(t *testing.T) {
	w, q, p, r := example()
	for name, c := range map[string]struct {
		w    api.World
		l    []api.Piece
		want api.Plan
	}{
		"the example":            {w, pieces(p, r), api.Plan{Piece: 1, Worst: 7, Outcome: 3}},
		"turned round":           {w, pieces(r, p), api.Plan{Piece: 0, Worst: 7, Outcome: 3}},
		"one piece":              {w, pieces(p), api.Plan{Piece: 0, Worst: 13, Outcome: 1}},
		"the first one of equal": {w, pieces(p, r, r), api.Plan{Piece: 1, Worst: 7, Outcome: 3}},
		"the cheaper one":        {w, pieces(r, p, piece(2, 0, 3, 8), piece(2, 0, 3, 8)), api.Plan{Piece: 2, Worst: 7, Outcome: -17}},
		"narrow, if it is dear":  {w, pieces(piece(0, 2, 4, 0), r, piece(0, 2, 2, api.MaxCost)), api.Plan{Piece: 2, Worst: 5, Outcome: 2}},
		"as many as may be":      {w, append(slices.Repeat(pieces(p), 11), r), api.Plan{Piece: 11, Worst: 7, Outcome: 3}},
	} {
		x, e := plan.Best(c.w, c.l, q)
		if x != c.want || e != api.OK {
			t.Error(name, x, e)
		}
		if e := plan.CheckPlan(c.w, c.l, q, c.want); e != api.OK {
			t.Error(name, e)
		}
	}
}

// P9.1: the cheapest piece that leaves no more than so many years; of several the one that leaves the least, then the first one.
func TestCheap(t *testing.T) {
	w, q, p, r := example()
	two := piece(0, 2, 2, 9)
	for name, c := range map[string]struct {
		l    []api.Piece
		most int
		want api.Plan
		e    api.Errno
	}{
		"the example":              {pieces(p, r), 13, api.Plan{Worst: 13, Outcome: 1}, api.OK},
		"any number of years":      {pieces(r, p), math.MaxInt, api.Plan{Piece: 1, Worst: 13, Outcome: 1}, api.OK},
		"fewer years":              {pieces(p, r), 12, api.Plan{Piece: 1, Worst: 7, Outcome: 3}, api.OK},
		"just so many":             {pieces(p, r), 7, api.Plan{Piece: 1, Worst: 7, Outcome: 3}, api.OK},
		"too few":                  {pieces(p, r), 6, api.Plan{}, api.ErrNone},
		"fewer than none":          {pieces(p, r), math.MinInt, api.Plan{}, api.ErrNone},
		"of one cost the narrower": {pieces(p, r, two), 7, api.Plan{Piece: 2, Worst: 5, Outcome: 2}, api.OK},
		"of one cost the first":    {pieces(p, two, r, two), 7, api.Plan{Piece: 1, Worst: 5, Outcome: 2}, api.OK},
		"cheap, if it is wider":    {pieces(two, piece(0, 2, 3, 8), p), 7, api.Plan{Piece: 1, Worst: 7, Outcome: 3}, api.OK},
	} {
		if x, e := plan.Cheap(w, c.l, q, c.most); x != c.want || e != c.e {
			t.Error(name, x, e)
		}
	}
}

// P9.1: pieces whose count tells nothing of the question.
func TestIdle(t *testing.T) {
	w, q, p, r := example()
	v := with(w, claim(1, 3, 4, 4, 2))
	loose := world(slices.Concat(w.Claims, claims(claim(7, 8, 0, 3, 1))), torn().Questions[0])
	for name, c := range map[string]struct {
		w    api.World
		l    []api.Piece
		q    api.Ask
		want []int
	}{
		"the example":                         {w, pieces(p, r), q, nil},
		"a count that tells nothing new":      {v, pieces(r, piece(1, 3, 2, 0), p, piece(3, 1, 0, 0)), q, []int{1, 3}},
		"an error so great":                   {w, pieces(piece(0, 2, 20, 0), piece(0, 2, 19, 0), piece(0, 2, 50, 0)), q, nil},
		"an error so great at all counts":     {v, pieces(piece(1, 3, 50, 0)), ask(1, 3), []int{0}},
		"beside what is asked":                {w, pieces(piece(1, 2, 0, 0), p), ask(0, 1), []int{0}},
		"not tied to what is asked":           {loose, pieces(p, piece(8, 7, 0, 0)), q, []int{1}},
		"as wide as before, with other years": {gapped(), pieces(piece(0, 1, 0, 0), piece(1, 2, 0, 0)), ask(0, 2), []int{1}},
	} {
		if l, e := plan.Idle(c.w, c.l, c.q); !slices.Equal(l, c.want) || e != api.OK {
			t.Error(name, l, e)
		}
	}
}

// P9.1: the best piece behind a count of one of the same list.
func TestSecond(t *testing.T) {
	w, q, p, r := example()
	for name, c := range map[string]struct {
		w            api.World
		l            []api.Piece
		q            api.Ask
		first, count int
		want         api.Plan
		e            api.Errno
	}{
		"the example":                     {w, pieces(p, r), q, 0, 4, api.Plan{Piece: 1, Worst: 7, Outcome: 6}, api.OK},
		"the last count":                  {w, pieces(p, r), q, 0, 11, api.Plan{Piece: 1, Worst: 7, Outcome: 13}, api.OK},
		"the same piece again":            {w, pieces(p), q, 0, 4, api.Plan{Worst: 13, Outcome: 4}, api.OK},
		"behind the other one":            {w, pieces(p, r), q, 1, -3, api.Plan{Worst: 1, Outcome: -1}, api.OK},
		"behind the last of two":          {w, pieces(p, r), q, 1, 10, api.Plan{Worst: 7, Outcome: 2}, api.OK},
		"no piece":                        {w, nil, q, 0, 4, api.Plan{}, api.ErrNone},
		"no such piece":                   {w, pieces(p, r), q, 2, 4, api.Plan{}, api.ErrArg},
		"no such piece either":            {w, pieces(p, r), q, -1, 4, api.Plan{}, api.ErrArg},
		"no such piece, no mark":          {w, pieces(p, r), ask(0, 3), 2, 4, api.Plan{}, api.ErrArg},
		"no such piece, a bad world":      {full(399), pieces(p, r), q, math.MaxInt, 4, api.Plan{}, api.ErrArg},
		"not possible":                    {w, pieces(p, r), q, 0, 12, api.Plan{}, api.ErrOutcome},
		"not possible, no mark":           {w, pieces(p, piece(0, 3, 0, 0)), ask(0, 3), 0, 12, api.Plan{}, api.ErrOutcome},
		"no mark of the first":            {w, pieces(piece(0, 3, 0, 0), p), q, 0, 4, api.Plan{}, api.ErrMark},
		"no mark of another one":          {w, pieces(p, piece(0, 3, 0, 0)), q, 0, 4, api.Plan{}, api.ErrMark},
		"no mark of the ask":              {w, pieces(p), ask(0, 3), 0, 4, api.Plan{}, api.ErrMark},
		"no chronology":                   {broken(), pieces(p), q, 0, 4, api.Plan{}, api.ErrChronology},
		"no room for the first count":     {full(398), pieces(p, r), q, 0, 4, api.Plan{}, api.ErrLong},
		"no room for the second one":      {full(397), pieces(p, r), q, 0, 4, api.Plan{}, api.ErrLong},
		"room for both":                   {full(396), pieces(p, r), q, 0, 4, api.Plan{Piece: 1, Worst: 7, Outcome: 6}, api.OK},
		"too many counts but for the one": {world(claims(claim(0, 1, 1, 999, 1), claim(1, 2, 0, 0, 1))), pieces(piece(0, 2, 1, 0)), q, 0, 9, api.Plan{Worst: 3, Outcome: 9}, api.OK},
		"tied by the count":               {torn(), pieces(piece(0, 3, 1, 0)), ask(0, 3), 0, 69, api.Plan{Worst: 3, Outcome: 69}, api.OK},
	} {
		if x, e := plan.Second(c.w, c.l, c.q, c.first, c.count); x != c.want || e != c.e {
			t.Error(name, x, e)
		}
	}
}

// P9.1: the first piece of two counts, where the second one is chosen behind the first count.
func TestTwo(t *testing.T) {
	w, q, p, r := example()
	zero := piece(0, 1, 0, 5)
	for name, c := range map[string]struct {
		w    api.World
		l    []api.Piece
		want api.Plan
		e    api.Errno
	}{
		"the example":                 {w, pieces(p, r), api.Plan{Piece: 0, Worst: 7, Outcome: -1}, api.OK},
		"both together tell all":      {w, pieces(r, zero, piece(1, 2, 0, 4)), api.Plan{Piece: 2, Worst: 1, Outcome: 0}, api.OK},
		"one piece, again":            {w, pieces(p), api.Plan{Worst: 13, Outcome: 1}, api.OK},
		"the first one of equal":      {w, pieces(r, p, p), api.Plan{Piece: 1, Worst: 7, Outcome: -1}, api.OK},
		"of equal cost the first one": {w, pieces(piece(2, 1, 0, 5), zero), api.Plan{Worst: 1, Outcome: -10}, api.OK},
		"no room for two":             {full(397), pieces(p, r), api.Plan{}, api.ErrLong},
		"room for two":                {full(396), pieces(p, r), api.Plan{Worst: 7, Outcome: -1}, api.OK},
	} {
		if x, e := plan.Two(c.w, c.l, q); x != c.want || e != c.e {
			t.Error(name, x, e)
		}
	}
}

// lists calls each function that takes a list of pieces and tells an error: their errors, and whether all else is zero.
func lists(w api.World, l []api.Piece, q api.Ask) map[string]outcome {
	best, noBest := plan.Best(w, l, q)
	cheap, noCheap := plan.Cheap(w, l, q, math.MaxInt)
	idle, noIdle := plan.Idle(w, l, q)
	two, noTwo := plan.Two(w, l, q)
	return map[string]outcome{
		"Best":      {noBest, best == api.Plan{}},
		"CheckPlan": {plan.CheckPlan(w, l, q, best), true},
		"Cheap":     {noCheap, cheap == api.Plan{}},
		"Idle":      {noIdle, len(idle) == 0},
		"Two":       {noTwo, two == api.Plan{}},
	}
}

// P9.1, P1, R1, R2: the errors of all that choose from a list, in their order.
func TestListErrors(t *testing.T) {
	w, q, p, r := example()
	lost, bad := piece(0, 3, 0, 0), piece(1, 1, 0, 0)
	long := world(claims(claim(0, 1, 1, 401, 1), claim(0, 2, 1, 401, 1)))
	for name, c := range map[string]struct {
		w api.World
		l []api.Piece
		q api.Ask
		e api.Errno
	}{
		"too many pieces, and bad ones":   {full(399), slices.Repeat(pieces(bad), 13), ask(1, 1), api.ErrLong},
		"too many pieces":                 {w, slices.Repeat(pieces(p), 13), q, api.ErrLong},
		"a bad piece, a bad world":        {full(399), pieces(p, bad), q, api.ErrPlan},
		"a bad piece, no mark ahead":      {w, pieces(lost, bad), q, api.ErrPlan},
		"a bad ask, a bad world":          {full(399), pieces(p), ask(1, 1), api.ErrPlan},
		"a bad ask, no piece":             {w, nil, ask(1, 1), api.ErrPlan},
		"no piece, a bad world":           {full(399), nil, q, api.ErrNone},
		"no piece, no mark":               {w, nil, ask(0, 3), api.ErrNone},
		"a bad world, no mark":            {with(w, claim(1, 1, 0, 0, 1)), pieces(lost), q, api.ErrClaim},
		"no mark of the piece":            {broken(), pieces(lost, p), q, api.ErrMark},
		"no chronology, then no mark":     {broken(), pieces(p, lost), ask(0, 3), api.ErrChronology},
		"no mark of the ask":              {w, pieces(p, lost), ask(0, 3), api.ErrMark},
		"no mark of the second piece":     {w, pieces(p, lost), q, api.ErrMark},
		"too many counts, then no mark":   {long, pieces(piece(0, 1, 0, 0), lost), q, api.ErrLong},
		"no end, then too many counts":    {torn(), pieces(lost, piece(0, 4, 0, 0)), q, api.ErrFar},
		"a claim too far, then no end":    {dear(), pieces(piece(0, 1, 1, 0), piece(0, 3, 0, 0)), q, api.ErrOutcome},
		"all well, then a claim too far":  {dear(), pieces(piece(1, 2, 0, 0), piece(1, 0, 1, 0)), q, api.ErrOutcome},
		"no end, then a claim too far":    {dear(), pieces(piece(0, 3, 0, 0), piece(0, 1, 1, 0)), q, api.ErrFar},
		"no room":                         {full(398), pieces(p, r), q, api.ErrLong},
		"no room, then no mark":           {full(398), pieces(p, lost), q, api.ErrLong},
		"no mark, then no room":           {full(398), pieces(lost, p), q, api.ErrMark},
		"what is asked is not tied":       {torn(), pieces(p, lost), ask(0, 3), api.ErrFar},
		"no end, and the ask has no mark": {torn(), pieces(lost), ask(0, 4), api.ErrMark},
	} {
		for function, o := range lists(c.w, c.l, c.q) {
			if o.e != c.e || !o.zero {
				t.Error(function, name, o)
			}
		}
		if _, e := plan.Second(c.w, c.l, c.q, 0, 0); e != c.e && (c.e == api.ErrPlan || c.e == api.ErrNone || len(c.l) > 12) {
			t.Error("Second", name, e)
		}
	}
}

// P9.4: no piece of the list leaves less than the best one; CheckPlan accepts its plan and no other one.
func TestBestPiece(t *testing.T) {
	d := dice(8)
	for range 300 {
		w, l, q := tiedWorld(d), somePieces(d, 5), someAsk(d)
		o := oracle(chronologies(w))
		var plans []api.Plan
		for _, p := range l {
			plans = append(plans, o.worst(p, q))
		}
		want := least(l, plans)
		x, e := plan.Best(w, l, q)
		if x != want || e != api.OK {
			t.Fatal(w, l, q, x, want)
		}
		for i, p := range l {
			y, e := plan.Worst(w, p, q)
			if y.Worst < x.Worst || y.Worst == x.Worst && p.Cost < l[x.Piece].Cost || e != api.OK {
				t.Fatal(w, l, q, x, y)
			}
			y.Piece = i
			if e := plan.CheckPlan(w, l, q, y); (e == api.OK) != (y == x) || e != api.OK && e != api.ErrOutcome {
				t.Fatal(w, l, q, x, y, e)
			}
		}
		for _, other := range []api.Plan{{}, {Piece: x.Piece + 1, Worst: x.Worst, Outcome: x.Outcome}, {Piece: x.Piece, Worst: x.Worst + 1, Outcome: x.Outcome}, {Piece: x.Piece, Worst: x.Worst, Outcome: x.Outcome - 1}, {Piece: -1, Worst: math.MinInt, Outcome: math.MaxInt}} {
			if e := plan.CheckPlan(w, l, q, other); e != api.ErrOutcome {
				t.Fatal(w, l, q, other, e)
			}
		}
	}
}

// P9.1: Cheap by what each piece leaves.
func TestCheapPiece(t *testing.T) {
	d := dice(9)
	for range 300 {
		w, l, q := tiedWorld(d), somePieces(d, 5), someAsk(d)
		for most := range 10 {
			at, want := -1, api.Plan{}
			for i, p := range l {
				y := first(plan.Worst(w, p, q))
				if y.Worst <= most && (at < 0 || p.Cost < l[at].Cost || p.Cost == l[at].Cost && y.Worst < want.Worst) {
					at, want = i, api.Plan{Piece: i, Worst: y.Worst, Outcome: y.Outcome}
				}
			}
			if x, e := plan.Cheap(w, l, q, most); x != want || (e == api.OK) != (at >= 0) || e != api.OK && e != api.ErrNone {
				t.Fatal(w, l, q, most, x, want, e)
			}
		}
	}
}

// P9.1, P9.5: pieces are idle if the question has the same years behind all counts; then Worst is Width.
func TestIdlePieces(t *testing.T) {
	d := dice(10)
	idle := 0
	for range 400 {
		w, l, q := tiedWorld(d), somePieces(d, 5), someAsk(d)
		before := first(cases.Values(w, q.A, q.B))
		var want []int
		for i, p := range l {
			same := true
			for _, count := range numbers(first(plan.Outcomes(w, p))) {
				same = same && slices.Equal(before, first(cases.Values(first(plan.After(w, p, count)), q.A, q.B)))
			}
			if same {
				want = append(want, i)
			}
		}
		got, e := plan.Idle(w, l, q)
		if !slices.Equal(got, want) || e != api.OK {
			t.Fatal(w, l, q, got, want, e)
		}
		for _, i := range got {
			idle++
			if x := first(plan.Worst(w, l[i], q)); x.Worst != first(plan.Width(w, q)) {
				t.Fatal(w, l, q, i, x)
			}
		}
	}
	if idle < 20 {
		t.Error(idle)
	}
}

// P9.1, P9.6: Two is as the chronologies tell; it leaves no more than Best.
func TestTwoCounts(t *testing.T) {
	d := dice(11)
	lesser := 0
	for range 1500 {
		w, l, q := tiedWorld(d), somePieces(d, 4), someAsk(d)
		for i := range l {
			l[i].Miss /= 3
		}
		o := oracle(chronologies(w))
		var plans []api.Plan
		for _, p := range l {
			plans = append(plans, o.two(l, p, q))
		}
		want := least(l, plans)
		x, e := plan.Two(w, l, q)
		if x != want || e != api.OK {
			t.Fatal(w, l, q, x, want, e)
		}
		y := first(plan.Best(w, l, q))
		if x.Worst > y.Worst {
			t.Fatal(w, l, q, x, y)
		}
		if x.Worst < y.Worst {
			lesser++
		}
	}
	if lesser < 10 {
		t.Error(lesser)
	}
}

// P9.1, R1: Best, Second and Two are as the chapter describes them, also in worlds where they have errors.
func TestListsAsDescribed(t *testing.T) {
	d := dice(12)
	for range 400 {
		w, l, q := wildWorld(d), somePieces(d, 3), someAsk(d)
		want, due := plainBest(w, l, q)
		if x, e := plan.Best(w, l, q); x != want || e != due {
			t.Fatal(w, l, q, x, e, want, due)
		}
		at := d.IntN(len(l))
		counts, _ := plan.Outcomes(w, l[at])
		count := d.IntN(20) - 10
		if len(counts) > 0 && d.IntN(4) > 0 {
			count = counts[0].Lo
		}
		behind, e := plan.After(w, l[at], count)
		want, due = api.Plan{}, e
		if e == api.OK {
			want, due = plainBest(behind, l, q)
		}
		if x, e := plan.Second(w, l, q, at, count); x != want || e != due {
			t.Fatal(w, l, q, at, count, x, e, want, due)
		}
	}
	for range 60 {
		w, l, q := wildWorld(d), somePieces(d, 2), someAsk(d)
		if n := first(plan.Outcomes(w, l[0])); len(n) > 0 && n[len(n)-1].Hi-n[0].Lo > 60 {
			continue
		}
		want, due := plainTwo(w, l, q)
		if x, e := plan.Two(w, l, q); x != want || e != due {
			t.Fatal(w, l, q, x, e, want, due)
		}
	}
}

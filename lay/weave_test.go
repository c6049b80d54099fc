package lay_test

import (
	"math/rand/v2"
	"slices"
	"testing"

	"gyttja/api"
	"gyttja/lay"
)

// P3.1: the weave of the examples, and pieces without joins.
func TestWeave(t *testing.T) {
	x, y, r := example()
	if w, e := lay.Weave(x, y, r); !sameWeave(w, exampleWeave()) || e != api.OK {
		t.Error(w, e)
	}
	one := api.Weave{Knots: []api.Knot{{}, {Phase: 1, I: 1, J: 1, Both: 1}}, Threads: []api.Thread{{From: 0, To: 1, Op: 1}}}
	for _, c := range []struct {
		x, y []int
		r    api.Rule
		want api.Weave
	}{
		{x, y, api.Rule{Overlap: 1}, api.Weave{}}, {x, y, api.Rule{Tol: 100000, Edits: 6, Overlap: 3}, api.Weave{}}, {[]int{5}, []int{6}, api.Rule{Edits: 6, Overlap: 1}, api.Weave{}},
		{[]int{5}, []int{6}, api.Rule{Tol: 1, Overlap: 1}, one}, {[]int{5}, []int{5}, api.Rule{Tol: 100000, Edits: 6, Overlap: 1}, one}, {[]int{5}, []int{5}, api.Rule{Overlap: 2}, api.Weave{}},
		{[]int{1}, []int{1, 1}, api.Rule{Overlap: 1}, api.Weave{
			Knots:   []api.Knot{{}, {J: 1}, {Phase: 1, I: 1, J: 1, Both: 1}, {Phase: 1, I: 1, J: 2, Both: 1}, {Phase: 2, I: 1, J: 2, Both: 1}},
			Threads: []api.Thread{{From: 0, To: 2, Op: 1}, {From: 0, To: 1, Op: 7}, {From: 1, To: 3, Op: 1}, {From: 2, To: 4, Op: 7}},
		}},
	} {
		w, e := lay.Weave(c.x, c.y, c.r)
		if !sameWeave(w, c.want) || e != api.OK || lay.CheckWeave(c.x, c.y, c.r, w) != api.OK {
			t.Error(c, w, e)
		}
	}
}

// P3.2: the weave has exactly the knots and threads of the joins that are allowed, its joins are these, and CheckWeave accepts it.
func TestWeaveOfAllJoins(t *testing.T) {
	d := dice(31)
	joined := 0
	for range 300 {
		x, y, r := somePiece(d, 4), somePiece(d, 4), someRule(d)
		joins := allJoins(x, y, r)
		w, e := lay.Weave(x, y, r)
		if want := weaveOf(joins, r.Overlap); !sameWeave(w, want) || e != api.OK || lay.CheckWeave(x, y, r, w) != api.OK {
			t.Fatal(x, y, r, w, want, e)
		}
		if !slices.EqualFunc(joinsOf(w), joins, slices.Equal) || !isWellFormed(w) {
			t.Fatal(x, y, r, joinsOf(w), joins)
		}
		for i, l := range joins {
			j, e := lay.Nth(w, i)
			if e != api.OK || !slices.Equal(j.Ops, l) || lay.CheckJoin(x, y, r, j) != api.OK {
				t.Fatal(x, y, r, i, j, e)
			}
		}
		joined += len(joins)
	}
	if joined < 1000 {
		t.Error("too little was tried", joined)
	}
}

// P3.2: CheckWeave accepts no other weave.
func TestCheckWeave(t *testing.T) {
	x, y, r := example()
	if e := lay.CheckWeave(x, y, r, exampleWeave()); e != api.OK {
		t.Error(e)
	}
	empty := api.Weave{Knots: []api.Knot{}, Threads: []api.Thread{}}
	if lay.CheckWeave(x, y, api.Rule{Overlap: 1}, empty) != api.OK || lay.CheckWeave(x, y, api.Rule{Overlap: 1}, api.Weave{}) != api.OK {
		t.Error("no joins")
	}
	for _, w := range []api.Weave{
		{}, empty, {Knots: exampleWeave().Knots}, {Threads: exampleWeave().Threads}, {Knots: exampleWeave().Knots[:4], Threads: exampleWeave().Threads[:4]},
		{Knots: []api.Knot{{}, {Phase: 1, I: 2, J: 1, Edits: 1}, {Phase: 1, I: 3, J: 2, Edits: 1, Both: 1}}, Threads: []api.Thread{{From: 0, To: 1, Op: 4}, {From: 1, To: 2, Op: 1}}},
	} {
		if e := lay.CheckWeave(x, y, r, w); e != api.ErrWeave {
			t.Error(w, e)
		}
	}
	if e := lay.CheckWeave(x, y, api.Rule{Overlap: 1}, exampleWeave()); e != api.ErrWeave {
		t.Error(e)
	}
	d := dice(32)
	for range 2000 {
		w := exampleWeave()
		disturb(d, &w)
		if e := lay.CheckWeave(x, y, r, w); (e == api.OK) != sameWeave(w, exampleWeave()) || e != api.OK && e != api.ErrWeave {
			t.Fatal(w, e)
		}
	}
}

// P3.1, R1: errors of functions of two pieces and a rule: the pieces first, then the rule.
func TestPieceErrors(t *testing.T) {
	x, y, r := example()
	for _, c := range []struct {
		x, y []int
		r    api.Rule
		e    api.Errno
	}{
		{nil, y, r, api.ErrPiece}, {x, nil, r, api.ErrPiece}, {[]int{}, nil, r, api.ErrPiece}, {alike(25), y, r, api.ErrPiece}, {x, alike(25), r, api.ErrPiece}, {[]int{0}, y, r, api.ErrPiece}, {x, []int{5, 100001}, r, api.ErrPiece},
		{x, nil, api.Rule{}, api.ErrPiece}, {nil, y, api.Rule{Tol: -1}, api.ErrPiece},
		{x, y, api.Rule{}, api.ErrRule}, {x, y, api.Rule{Tol: -1, Overlap: 1}, api.ErrRule}, {x, y, api.Rule{Tol: 100001, Overlap: 1}, api.ErrRule}, {x, y, api.Rule{Edits: 7, Overlap: 1}, api.ErrRule}, {x, y, api.Rule{Edits: -1, Overlap: 1}, api.ErrRule}, {x, y, api.Rule{Overlap: 25}, api.ErrRule},
		{x, y, api.Rule{Overlap: 24}, api.OK},
	} {
		w, e := lay.Weave(c.x, c.y, c.r)
		if e != c.e || len(w.Knots) != 0 || len(w.Threads) != 0 {
			t.Error(c, w, e)
		}
		for _, w := range []api.Weave{{Knots: []api.Knot{{I: 1}}}, exampleWeave()} {
			want := c.e
			if want == api.OK {
				want = api.ErrWeave
			}
			if e := lay.CheckWeave(c.x, c.y, c.r, w); e != want {
				t.Error(c, e)
			}
		}
		for _, j := range []api.Join{{}, ops(0), ops(extremes...)} {
			want := c.e
			if want == api.OK {
				want = api.ErrJoin
			}
			if e := lay.CheckJoin(c.x, c.y, c.r, j); e != want {
				t.Error(c, j, e)
			}
		}
	}
}

// P3.2: pieces of as many layers as may be that all fit, with as many edits: joins are counted in another way.
func TestWeaveLimits(t *testing.T) {
	for _, c := range []struct{ n, m, edits, overlap int }{
		{24, 24, 6, 1}, {24, 24, 6, 12}, {24, 24, 6, 24}, {24, 24, 0, 1}, {24, 23, 6, 18}, {24, 1, 6, 1}, {1, 24, 6, 1}, {13, 24, 6, 5}, {24, 24, 3, 22}, {3, 9, 6, 2},
	} {
		r := api.Rule{Tol: 100000, Edits: c.edits, Overlap: c.overlap}
		w, e := lay.Weave(alike(c.n), alike(c.m), r)
		if e != api.OK || lay.CheckWeave(alike(c.n), alike(c.m), r, w) != api.OK {
			t.Fatal(c, e)
		}
		n, e := lay.Count(w)
		if want := joinsThatFit(c.n, c.m, c.edits, c.overlap); n != want || e != api.OK || n == 0 {
			t.Error(c, n, want, e)
		}
		for _, i := range []int{0, 1, n / 3, n / 2, n - 2, n - 1} {
			j, e := lay.Nth(w, i)
			if i < 0 || i >= n {
				continue
			}
			rank, f := lay.Rank(w, j)
			if e != api.OK || f != api.OK || rank != i || lay.CheckJoin(alike(c.n), alike(c.m), r, j) != api.OK {
				t.Error(c, i, j, e, rank, f)
			}
		}
		checkSearches(t, w, n)
	}
}

// joinsThatFit counts the joins of pieces whose layers all fit: all middles, wherever in the pieces they lie.
func joinsThatFit(n, m, edits, overlap int) int {
	type part struct{ n, m, edits, fit int }
	known := map[part]int{{}: 1}
	var middles func(part) int
	middles = func(p part) int {
		if p.n < 0 || p.m < 0 || p.edits < 0 || p.fit < 0 {
			return 0
		}
		if count, ok := known[p]; ok {
			return count
		}
		count := 0
		for op := 1; op <= 5; op++ {
			x, y, c := layersOf(op)
			fit := 0
			if op == both {
				fit = 1
			}
			count += middles(part{p.n - x, p.m - y, p.edits - c, p.fit - fit})
		}
		known[p] = count
		return count
	}
	// Years that hang, above and below: of X, or of Y, or none.
	count := 0
	for a := -m; a <= n; a++ {
		for b := -m; b <= n; b++ {
			inX, inY := n-max(a, 0)-max(b, 0), m-max(-a, 0)-max(-b, 0)
			for e := 0; e <= edits; e++ {
				for fit := overlap; fit <= min(n, m); fit++ {
					count += middles(part{inX, inY, e, fit})
				}
			}
		}
	}
	return count
}

// checkSearches tries what is said of some joins of a weave that has too many to go through.
func checkSearches(t *testing.T, w api.Weave, n int) {
	may, e := lay.May(w)
	sure, f := lay.Sure(w)
	if e != api.OK || f != api.OK || !slices.IsSortedFunc(may, byPair) {
		t.Fatal(e, f)
	}
	for i, p := range may {
		j, e := lay.Avoid(w, p)
		if (e == api.ErrNone) != slices.Contains(sure, p) || e == api.OK && slices.Contains(pairsIn(j.Ops), p) {
			t.Error(p, j, e)
		}
		if i > 0 && p == may[i-1] {
			t.Error(may)
		}
	}
	offsets, e := lay.Offsets(w)
	if e != api.OK || len(offsets) == 0 {
		t.Fatal(e)
	}
	for i := 0; i < len(offsets); i += 1 + len(offsets)/50 {
		j, e := lay.With(w, offsets[i])
		if e != api.OK || offsetIn(j.Ops) != offsets[i] {
			t.Error(offsets[i], j, e)
		}
	}
	for i := 0; i < n; i += 1 + n/50 {
		j, e := lay.Nth(w, i)
		if e != api.OK || !slices.Contains(offsets, offsetIn(j.Ops)) {
			t.Error(i, j, e)
		}
		for _, p := range pairsIn(j.Ops) {
			if !slices.Contains(may, p) {
				t.Error(i, j, p)
			}
		}
	}
}

// P3.4: the weaves of x, y and of y, x have the same number of joins.
func TestTurnedWeaves(t *testing.T) {
	d := dice(33)
	for range 200 {
		x, y, r := somePiece(d, 6), somePiece(d, 6), someRule(d)
		v, _ := lay.Weave(x, y, r)
		w, _ := lay.Weave(y, x, r)
		n, e := lay.Count(v)
		m, f := lay.Count(w)
		if n != m || e != api.OK || f != api.OK {
			t.Fatal(x, y, r, n, m, e, f)
		}
		for i := 0; i < n; i += 1 + n/20 {
			j, _ := lay.Nth(v, i)
			if _, e := lay.Rank(w, lay.Turn(j)); e != api.OK {
				t.Fatal(x, y, r, j, e)
			}
		}
	}
}

// P3.7: with more room, what was allowed remains allowed.
func TestMoreRoom(t *testing.T) {
	d := dice(34)
	tried := 0
	for range 300 {
		x, y, r := somePiece(d, 5), somePiece(d, 5), someRule(d)
		w, _ := lay.Weave(x, y, r)
		n, _ := lay.Count(w)
		for i := 0; i < n; i += 1 + n/20 {
			j, _ := lay.Nth(w, i)
			wide := api.Rule{Tol: r.Tol + d.IntN(3), Edits: r.Edits + d.IntN(3), Overlap: 1 + d.IntN(r.Overlap)}
			v, _ := lay.Weave(x, y, wide)
			if _, e := lay.Rank(v, j); e != api.OK || lay.CheckJoin(x, y, wide, j) != api.OK {
				t.Fatal(x, y, r, wide, j, e)
			}
			tried++
		}
	}
	if tried < 500 {
		t.Error("too little was tried", tried)
	}
}

// P3.6: years are laid, some are missing in one core, some are counted twice: the join that says so is allowed, and its offset is found.
func TestWhatHappenedIsFound(t *testing.T) {
	d := dice(35)
	tried := 0
	for tried < 300 {
		r := api.Rule{Tol: d.IntN(4), Edits: d.IntN(7), Overlap: 1 + d.IntN(6)}
		x, y, l := deposit(d, r)
		if len(x) > api.MaxPiece || len(y) > api.MaxPiece {
			continue
		}
		tried++
		w, e := lay.Weave(x, y, r)
		if _, f := lay.Rank(w, api.Join{Ops: l}); e != api.OK || f != api.OK || lay.CheckJoin(x, y, r, api.Join{Ops: l}) != api.OK {
			t.Fatal(x, y, r, l, e, f)
		}
		if offsets, e := lay.Offsets(w); e != api.OK || !slices.Contains(offsets, offsetIn(l)) {
			t.Fatal(x, y, r, l, offsets, e)
		}
	}
}

// deposit lays years that both cores show, with errors as the rule allows them, and years above and below of one core. It returns what the cores show, and the operations that say so.
func deposit(d *rand.Rand, r api.Rule) (x, y, l []int) {
	middle := slices.Repeat([]int{both}, r.Overlap+d.IntN(8))
	for range d.IntN(r.Edits + 1) {
		middle = slices.Insert(middle, d.IntN(len(middle)+1), onlyX+d.IntN(4))
	}
	above, below := slices.Repeat([]int{hangX + d.IntN(2)}, d.IntN(6)), slices.Repeat([]int{hangX + d.IntN(2)}, d.IntN(6))
	l = slices.Concat(above, middle, below)
	for _, op := range l {
		thick := 10 + d.IntN(20)
		inX, inY, _ := layersOf(op)
		x = append(x, split(d, inX, thick)...)
		y = append(y, split(d, inY, thick+d.IntN(2*r.Tol+1)-r.Tol)...)
	}
	return x, y, l
}

// split is a year in so many layers, at most 2.
func split(d *rand.Rand, layers, thick int) []int {
	above := 1 + d.IntN(thick-1)
	return [][]int{nil, {thick}, {above, thick - above}}[layers]
}

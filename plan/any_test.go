package plan_test

import (
	"slices"
	"testing"

	"gyttja/api"
	"gyttja/plan"
)

type outcome struct {
	e    api.Errno
	zero bool // all other results are zero values
}

// outcomes calls each function that tells an error and takes no list.
func outcomes(w api.World, p, r api.Piece, q api.Ask, n int) map[string]outcome {
	c, noClaim := plan.Claim(p, n, 1)
	counts, noOutcomes := plan.Outcomes(w, p)
	behind, noAfter := plan.After(w, p, n)
	width, noWidth := plan.Width(w, q)
	worst, noWorst := plan.Worst(w, p, q)
	count, low, high, noSure := plan.Sure(w, p, q)
	lists, noSplit := plan.Split(w, p, n)
	is, noAsks := plan.Asks(w, p, r)
	return map[string]outcome{
		"Claim":    {noClaim, c == api.Claim{}},
		"Outcomes": {noOutcomes, len(counts) == 0},
		"After":    {noAfter, len(behind.Claims) == 0 && len(behind.Questions) == 0},
		"Width":    {noWidth, width == 0},
		"Worst":    {noWorst, worst == api.Plan{}},
		"Sure":     {noSure, count == 0 && len(low) == 0 && len(high) == 0},
		"Split":    {noSplit, len(lists) == 0},
		"Asks":     {noAsks, !is},
	}
}

// P1, R1, R2: a bad piece is ahead of all else, then a bad ask, then a bad world.
func TestFirstErrors(t *testing.T) {
	w, q, p, r := example()
	for _, bad := range badWorlds() {
		for _, badPiece := range badPieces() {
			for _, badAsk := range append(badAsks(), q) {
				for function, o := range outcomes(bad.w, badPiece, r, badAsk, 4) {
					if function != "Width" && (o.e != api.ErrPlan || !o.zero) {
						t.Error(function, badPiece, badAsk, o)
					}
				}
			}
			if is, e := plan.Asks(bad.w, r, badPiece); is || e != api.ErrPlan {
				t.Error(badPiece, is, e)
			}
			if x, e := plan.Second(bad.w, pieces(p, badPiece), q, 9, 4); x != (api.Plan{}) || e != api.ErrPlan {
				t.Error(badPiece, x, e)
			}
		}
		for _, badAsk := range badAsks() {
			o := outcomes(bad.w, p, r, badAsk, 4)
			for _, function := range []string{"Width", "Worst", "Sure"} {
				if o[function].e != api.ErrPlan || !o[function].zero {
					t.Error(function, badAsk, o[function])
				}
			}
			for function, o := range lists(w, nil, badAsk) {
				if o.e != api.ErrPlan || !o.zero {
					t.Error(function, badAsk, o)
				}
			}
			if x, e := plan.Second(bad.w, nil, badAsk, 9, 4); x != (api.Plan{}) || e != api.ErrPlan {
				t.Error(badAsk, x, e)
			}
		}
		for function, o := range outcomes(bad.w, p, r, q, 4) {
			if function != "Claim" && (o.e != bad.e || !o.zero) {
				t.Error(function, bad.e, o)
			}
		}
		for function, o := range lists(bad.w, pieces(p, r), q) {
			if o.e != bad.e || !o.zero {
				t.Error(function, bad.e, o)
			}
		}
		if x, e := plan.Second(bad.w, pieces(p, r), q, 1, 4); x != (api.Plan{}) || e != bad.e {
			t.Error(bad.e, x, e)
		}
	}
}

// P1, R2: no function panics, whatever its arguments are; beside an error all else is zero.
func TestAnyArguments(t *testing.T) {
	w, q, p, _ := example()
	worlds := []api.World{{}, w, broken(), torn(), gapped(), dear()}
	for _, bad := range badWorlds() {
		worlds = append(worlds, bad.w)
	}
	for _, n := range extremes {
		for _, m := range extremes {
			odd := world(claims(claim(n, m, m, n, m)), question(n, claims(claim(m, n, n, m, n)), nil))
			for _, w := range append(worlds, odd) {
				for _, r := range pieces(p, piece(n, m, m, n), piece(0, 1, n, m), piece(m, 1, 0, n)) {
					for _, q := range []api.Ask{q, ask(n, m), ask(1, n)} {
						for function, o := range outcomes(w, r, piece(0, m, 0, n), q, n) {
							if o.e != api.OK && !o.zero {
								t.Error(function, w, r, q, n, o)
							}
						}
						for _, at := range []int{0, 1, n} {
							if x, e := plan.Second(w, pieces(p, r), q, at, m); e != api.OK && x != (api.Plan{}) {
								t.Error("Second", w, r, q, at, m, x)
							}
						}
						if x, e := plan.Cheap(w, pieces(p, r), q, n); e != api.OK && x != (api.Plan{}) {
							t.Error("Cheap", w, r, q, n, x)
						}
						plan.CheckPlan(w, pieces(p, r), q, api.Plan{Piece: n, Worst: m, Outcome: n})
					}
				}
			}
			for function, o := range lists(odd, pieces(piece(n, m, m, n), p), ask(m, n)) {
				if o.e == api.OK || !o.zero {
					t.Error(function, odd, n, m, o)
				}
			}
		}
	}
}

// P1: the largest worlds are answered for, too.
func TestLimits(t *testing.T) {
	var l []api.Claim
	for i := range 63 {
		l = append(l, claim(i, i+1, 0, 5, 1))
	}
	w := world(l)
	for by := 2; by <= 3; by++ {
		var choices [][]api.Claim
		for i := range 54 {
			choices = append(choices, claims(claim(by, 9*by, i, 2*i+30, by)))
		}
		w.Questions = append(w.Questions, question(by, choices...))
	}
	var many []api.Piece
	for i := range 12 {
		many = append(many, piece(i, i+50, 50, i))
	}
	x, e := plan.Best(w, many, ask(0, 63))
	if e != api.OK || plan.CheckPlan(w, many, ask(0, 63), x) != api.OK {
		t.Error(x, e)
	}
	for i, p := range many[:2] {
		if y, e := plan.Worst(w, p, ask(0, 63)); y.Worst < x.Worst || e != api.OK {
			t.Error(i, x, y, e)
		}
	}
	if x, e := plan.Two(world(l), many[:4], ask(0, 63)); x.Worst == 0 || e != api.OK {
		t.Error(x, e)
	}
}

// R3: empty lists in place of nil change nothing.
func TestEmptyLists(t *testing.T) {
	empty := world([]api.Claim{}, question(2, []api.Claim{}, claims(claim(0, 1, 2, 2, 2)), nil))
	bare := world(nil, question(2, nil, claims(claim(0, 1, 2, 2, 2)), []api.Claim{}))
	some := question(3, claims(claim(0, 1, 3, 9, 3)))
	for _, pair := range [][2]api.World{{empty, bare}, {world(empty.Claims, empty.Questions[0], some), world(bare.Claims, bare.Questions[0], some)}} {
		for n := range 4 {
			one, other := outcomes(pair[0], piece(0, 1, n, 0), piece(1, 0, n, 0), ask(1, 0), n), outcomes(pair[1], piece(0, 1, n, 0), piece(1, 0, n, 0), ask(1, 0), n)
			for function := range one {
				if one[function] != other[function] {
					t.Error(function, one[function], other[function])
				}
			}
		}
	}
	w, q, _, _ := example()
	for _, l := range [][]api.Piece{nil, {}} {
		for function, o := range lists(w, l, q) {
			if o.e != api.ErrNone || !o.zero {
				t.Error(function, o)
			}
		}
	}
}

// R4: no argument is changed, whatever is done to a result; and no two lists of one result share memory.
func TestMemory(t *testing.T) {
	w, q, p, r := example()
	w.Questions = []api.Question{question(4, claims(claim(0, 1, 2, 9, 4)), nil), question(5, nil, nil)}
	w.Claims = slices.Grow(w.Claims, 9)
	keep, l := copyOf(w), pieces(p, r)
	check := func(function string) {
		if !sameWorlds(w, keep) || !slices.Equal(l, pieces(p, r)) || w.Claims[:3][2] != (api.Claim{}) {
			t.Fatal(function, w, l)
		}
	}
	behind := first(plan.After(w, p, 4))
	check("After")
	_ = append(behind.Questions[0].Choices[0], claim(7, 7, 7, 7, 7))
	spoil := with(keep, behind.Claims[2])
	for i := range behind.Claims {
		behind.Claims[i].By = 77
	}
	for _, q := range behind.Questions {
		for _, l := range q.Choices {
			for i := range l {
				l[i].By = 77
			}
			_ = append(l, claim(7, 7, 7, 7, 7))
		}
		q.Choices[0] = nil
	}
	check("a world behind a count")
	if again := first(plan.After(w, p, 4)); !sameWorlds(again, spoil) {
		t.Error(again)
	}
	counts := first(plan.Outcomes(w, p))
	counts[0].Lo = 77
	_ = append(counts, api.Run{})
	split := first(plan.Split(w, p, 1))
	split[0][0].Lo = 77
	if split[1][0].Lo == 77 {
		t.Error(split)
	}
	_, low, high, _ := plan.Sure(w, p, q)
	for i := range low {
		low[i].Year = 77
		if high[i].Year == 77 {
			t.Error(high)
		}
	}
	idle := first(plan.Idle(with(w, claim(1, 3, 4, 4, 2)), pieces(piece(1, 3, 0, 0)), q))
	idle[0] = 77
	check("Outcomes, Split, Sure, Idle")
	plan.Width(w, q)
	plan.Asks(w, p, r)
	lists(w, l, q)
	plan.Second(w, l, q, 0, 4)
	check("lists")
}

// P9.1: what is told does not depend on what was asked before.
func TestAgain(t *testing.T) {
	d := dice(15)
	for range 100 {
		w, l, q := tiedWorld(d), somePieces(d, 3), someAsk(d)
		x, e := plan.Two(w, l, q)
		if y, f := plan.Two(w, l, q); x != y || e != f {
			t.Fatal(w, l, q, x, y)
		}
	}
}

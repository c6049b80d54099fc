package lay_test

import (
	"slices"
	"testing"

	"gyttja/api"
	"gyttja/lay"
)

type outcome struct {
	e    api.Errno
	zero bool // all other results are zero values
}

// outcomes calls each function of a weave.
func outcomes(w api.Weave, n int) map[string]outcome {
	count, noCount := lay.Count(w)
	nth, noNth := lay.Nth(w, n)
	rank, noRank := lay.Rank(w, ops(n))
	chosen, noChoice := lay.Choose(w, []int{n})
	best, noBest := lay.Best(w)
	may, noMay := lay.May(w)
	sure, noSure := lay.Sure(w)
	avoiding, noAvoid := lay.Avoid(w, api.Pair{I: n, J: n})
	offsets, noOffsets := lay.Offsets(w)
	with, noWith := lay.With(w, api.Offset{XEnd: n, YTop: n, YEnd: n})
	return map[string]outcome{
		"Count":   {noCount, count == 0},
		"Nth":     {noNth, len(nth.Ops) == 0},
		"Rank":    {noRank, rank == 0},
		"Choose":  {noChoice, len(chosen.Ops) == 0},
		"Best":    {noBest, len(best.Ops) == 0},
		"May":     {noMay, len(may) == 0},
		"Sure":    {noSure, len(sure) == 0},
		"Avoid":   {noAvoid, len(avoiding.Ops) == 0},
		"Offsets": {noOffsets, len(offsets) == 0},
		"With":    {noWith, len(with.Ops) == 0},
	}
}

// P1, R1, R2: each function of a weave has ErrWeave first, and zero values beside it.
func TestErrWeaveFirst(t *testing.T) {
	for name, w := range badWeaves() {
		for _, n := range []int{0, 1, -1, 100} {
			for function, c := range outcomes(w, n) {
				if c.e != api.ErrWeave || !c.zero {
					t.Error(function, name, c)
				}
			}
		}
	}
}

// P1, R2: no function panics, whatever its arguments are; beside an error all else is zero.
func TestAnyArguments(t *testing.T) {
	weaves := []api.Weave{{}, exampleWeave(), endsOfTwoPhases(), longPath(24), longPath(25)}
	for _, a := range extremes {
		for _, b := range extremes {
			weaves := append(weaves, api.Weave{Knots: []api.Knot{{}, {Phase: a, I: b, J: a, Edits: b, Both: a}}, Threads: []api.Thread{{From: a, To: b, Op: a}, {From: 0, To: 1, Op: b}}})
			for _, w := range weaves {
				for function, c := range outcomes(w, a) {
					if c.e != api.OK && !c.zero {
						t.Error(function, w, a, c)
					}
				}
			}
			x, r, j := []int{a, b}, api.Rule{Tol: a, Edits: b, Overlap: a}, ops(a, b)
			lay.Edits(j)
			lay.Turn(j)
			lay.Pairs(j)
			for _, y := range [][]int{{1, 2}, {5}, nil, x} {
				if w, e := lay.Weave(x, y, r); e != api.OK && len(w.Knots)+len(w.Threads) != 0 {
					t.Error(x, y, r, w, e)
				}
				lay.CheckJoin(x, y, r, j)
				lay.CheckWeave(x, y, r, weaves[len(weaves)-1])
				if xs, ys, e := lay.Years(x, y, j); e != api.OK && len(xs)+len(ys) != 0 {
					t.Error(x, y, j, e)
				}
				for _, op := range extremes {
					lay.Fits(x, y, a, b, op, a)
					lay.Fits([]int{1, 2}, []int{1, 2}, a, b, op, b)
				}
			}
		}
	}
}

// R4: no argument is changed, whatever is done to a result; no two results share memory.
func TestMemory(t *testing.T) {
	x, y, r := example()
	w, j, picks := exampleWeave(), ops(6, 6, 3, 1), []int{1, 7}
	v, _ := lay.Weave(x, y, r)
	v.Knots[0].I, v.Threads[0].Op = 77, 77
	turned := lay.Turn(ops(1))
	turned.Ops[0] = 77
	xs, ys, _ := lay.Years(x, y, j)
	xs = append(xs, 77)
	xs[0] = 77
	if !slices.Equal(ys, []int{2, 3}) {
		t.Error(ys)
	}
	for _, l := range [][]api.Pair{first(lay.May(w)), first(lay.Sure(w)), lay.Pairs(j)} {
		l[0].I = 77
	}
	first(lay.Offsets(w))[0].XEnd = 77
	for _, l := range []api.Join{first(lay.Nth(w, 1)), first(lay.Choose(w, picks)), first(lay.Best(w)), first(lay.Avoid(w, api.Pair{})), first(lay.With(w, api.Offset{XEnd: 1, YEnd: 1})), lay.Turn(j)} {
		l.Ops[0] = 77
	}
	lay.CheckJoin(x, y, r, j)
	lay.CheckWeave(x, y, r, w)
	lay.Rank(w, j)
	x0, y0, _ := example()
	if !sameWeave(w, exampleWeave()) || !slices.Equal(j.Ops, []int{6, 6, 3, 1}) || !slices.Equal(picks, []int{1, 7}) || !slices.Equal(x, x0) || !slices.Equal(y, y0) {
		t.Error(w, j, picks, x, y)
	}
	if again, e := lay.Weave(x, y, r); e != api.OK || !sameWeave(again, exampleWeave()) {
		t.Error(again, e)
	}
}

func first[T any](result T, _ api.Errno) T { return result }

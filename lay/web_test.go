package lay_test

import (
	"math/rand/v2"
	"slices"
	"testing"

	"gyttja/api"
	"gyttja/lay"
)

// isWellFormed says what the chapter says of a weave, point by point.
func isWellFormed(w api.Weave) bool {
	if len(w.Knots) == 0 && len(w.Threads) == 0 {
		return true
	}
	return knotsAreRight(w) && threadsAreRight(w) && len(lastKnots(w)) > 0 && endsAreRight(w) && !slices.ContainsFunc(w.Threads, func(t api.Thread) bool { return !leadsRight(w, t) })
}

func knotsAreRight(w api.Weave) bool {
	for i, k := range w.Knots {
		if k.I < 0 || k.I > 24 || k.J < 0 || k.J > 24 || k.Edits < 0 || k.Edits > 6 || k.Both < 0 || k.Both > 24 {
			return false
		}
		if i > 0 && inOrder(w.Knots[i-1], k) >= 0 {
			return false
		}
		if i > 0 && !slices.ContainsFunc(w.Threads, func(t api.Thread) bool { return t.To == i }) {
			return false
		}
	}
	return len(w.Knots) > 0 && w.Knots[0] == api.Knot{}
}

func threadsAreRight(w api.Weave) bool {
	for i, t := range w.Threads {
		if t.From < 0 || t.From >= len(w.Knots) || t.To < 0 || t.To >= len(w.Knots) {
			return false
		}
		if i > 0 && slices.Compare([]int{w.Threads[i-1].From, w.Threads[i-1].Op}, []int{t.From, t.Op}) >= 0 {
			return false
		}
	}
	return true
}

func lastKnots(w api.Weave) []api.Knot {
	var last []api.Knot
	for i, k := range w.Knots {
		if !slices.ContainsFunc(w.Threads, func(t api.Thread) bool { return t.From == i }) {
			last = append(last, k)
		}
	}
	return last
}

func endsAreRight(w api.Weave) bool {
	last := lastKnots(w)
	for _, k := range last {
		if k.Phase == api.PhaseTop || k.I < 1 || k.J < 1 || k.Both < 1 || k.I != last[0].I || k.J != last[0].J || k.Both != last[0].Both {
			return false
		}
	}
	return true
}

func leadsRight(w api.Weave, t api.Thread) bool {
	from, to, end := w.Knots[t.From], w.Knots[t.To], lastKnots(w)[0]
	x, y, edits := layersOf(t.Op)
	want := api.Knot{Phase: to.Phase, I: from.I + x, J: from.J + y, Edits: from.Edits + edits, Both: from.Both}
	if t.Op == both {
		want.Both = min(from.Both+1, end.Both)
	}
	if t.Op < 1 || t.Op > 7 || to != want {
		return false
	}
	if t.Op <= twoY {
		return (from.Phase == api.PhaseTop || from.Phase == api.PhaseIn) && to.Phase == api.PhaseIn
	}
	other, all := from.J, end.J
	if t.Op == hangY {
		other, all = from.I, end.I
	}
	if from.Phase == api.PhaseTop {
		return to.Phase == api.PhaseTop && other == 0
	}
	return (from.Phase == api.PhaseIn || from.Phase == api.PhaseEnd) && to.Phase == api.PhaseEnd && other == all && from.Both == end.Both
}

// P3.1: weaves that are not well-formed, one for each point.
func TestBadWeaves(t *testing.T) {
	if e := isAccepted(exampleWeave()); e != api.OK || !isWellFormed(exampleWeave()) {
		t.Fatal(e)
	}
	for name, w := range badWeaves() {
		if e := isAccepted(w); e != api.ErrWeave || isWellFormed(w) {
			t.Error(name, e, isWellFormed(w))
		}
	}
}

func isAccepted(w api.Weave) api.Errno {
	_, e := lay.Count(w)
	return e
}

// changed is the weave of the examples behind a change.
func changed(change func(*api.Weave)) api.Weave {
	w := exampleWeave()
	change(&w)
	return w
}

// path is a weave of one join, whose knots are as given.
func path(knots []api.Knot, ops ...int) api.Weave {
	w := api.Weave{Knots: knots}
	for i, op := range ops {
		w.Threads = append(w.Threads, api.Thread{From: i, To: i + 1, Op: op})
	}
	return w
}

func badWeaves() map[string]api.Weave {
	one := api.Knot{Phase: 1, I: 1, J: 1, Both: 1}
	return map[string]api.Weave{
		"no threads":                  {Knots: exampleWeave().Knots},
		"no knots":                    {Threads: exampleWeave().Threads},
		"the first knot alone":        {Knots: []api.Knot{{}}},
		"another first knot":          {Knots: []api.Knot{{I: 1}}},
		"no first knot":               changed(func(w *api.Weave) { w.Knots = w.Knots[1:] }),
		"a first knot with an edit":   path([]api.Knot{{Edits: 1}, {Phase: 1, I: 1, J: 1, Edits: 1, Both: 1}}, both),
		"a first knot that is within": path([]api.Knot{{Phase: 1}, one}, both),
		"phase below 0":               changed(func(w *api.Weave) { w.Knots[0].Phase = -1 }),
		"knots alike":                 changed(func(w *api.Weave) { w.Knots = slices.Insert(w.Knots, 1, w.Knots[1]) }),
		"knots that fall":             {Knots: []api.Knot{{}, {Phase: 1, I: 2, J: 1, Edits: 1, Both: 1}, {Phase: 1, I: 1, J: 1, Both: 1}}, Threads: []api.Thread{{From: 0, To: 2, Op: both}, {From: 2, To: 1, Op: onlyX}}},
		"a knot to which none leads":  changed(func(w *api.Weave) { w.Threads = w.Threads[:4] }),
		"an end on the way":           changed(func(w *api.Weave) { w.Threads = slices.Delete(w.Threads, 2, 3) }),
		"threads that fall":           changed(func(w *api.Weave) { w.Threads[0], w.Threads[1] = w.Threads[1], w.Threads[0] }),
		"threads alike":               changed(func(w *api.Weave) { w.Threads = slices.Insert(w.Threads, 0, w.Threads[0]) }),
		"threads from falling knots":  changed(func(w *api.Weave) { w.Threads[3], w.Threads[4] = w.Threads[4], w.Threads[3] }),
		"from below 0":                changed(func(w *api.Weave) { w.Threads[0].From = -1 }),
		"from no knot":                changed(func(w *api.Weave) { w.Threads[4].From = 5 }),
		"to below 0":                  changed(func(w *api.Weave) { w.Threads[4].To = -1 }),
		"to no knot":                  changed(func(w *api.Weave) { w.Threads[4].To = 5 }),
		"to another knot":             changed(func(w *api.Weave) { w.Threads[2].To = 3 }),
		"a ring":                      changed(func(w *api.Weave) { w.Threads = append(w.Threads, api.Thread{From: 4, To: 0, Op: 1}) }),
		"a thread to its own knot":    changed(func(w *api.Weave) { w.Threads = append(w.Threads, api.Thread{From: 4, To: 4, Op: 1}) }),
		"another operation":           changed(func(w *api.Weave) { w.Threads[3].Op = 7 }),
		"no operation":                path([]api.Knot{{}, one}, 0),
		"an operation too great":      path([]api.Knot{{}, one}, 8),
		"an operation below 0":        path([]api.Knot{{}, one}, -1),
		"an end in the first part":    path([]api.Knot{{}, {I: 1}, {I: 2}}, hangX, hangX),
		"an end without an overlap":   path([]api.Knot{{}, {Phase: 1, I: 2, J: 1, Edits: 1}}, twoX),
		"both is not counted":         path([]api.Knot{{}, {Phase: 1, I: 1, J: 1}}, both),
		"both is counted beyond the overlap": {
			Knots:   []api.Knot{{}, {Phase: 1, I: 1, Edits: 1}, {Phase: 1, I: 1, J: 1, Both: 1}, {Phase: 1, I: 2, J: 1, Edits: 1, Both: 1}, {Phase: 1, I: 2, J: 2, Both: 2}},
			Threads: []api.Thread{{From: 0, To: 2, Op: both}, {From: 0, To: 1, Op: onlyX}, {From: 1, To: 3, Op: both}, {From: 2, To: 4, Op: both}},
		},
		"ends of two lengths": {
			Knots:   []api.Knot{{}, {Phase: 1, I: 1, J: 1, Both: 1}, {Phase: 1, I: 1, J: 2, Edits: 1, Both: 1}, {Phase: 1, I: 2, J: 1, Edits: 1, Both: 1}},
			Threads: []api.Thread{{From: 0, To: 1, Op: both}, {From: 1, To: 3, Op: onlyX}, {From: 1, To: 2, Op: onlyY}},
		},
		"an edit that is not counted":      path([]api.Knot{{}, one, {Phase: 1, I: 2, J: 1, Both: 1}}, both, onlyX),
		"too many edits":                   path([]api.Knot{{}, one, {Phase: 1, I: 2, J: 1, Edits: 1, Both: 1}, {Phase: 1, I: 3, J: 1, Edits: 2, Both: 1}, {Phase: 1, I: 4, J: 1, Edits: 3, Both: 1}, {Phase: 1, I: 5, J: 1, Edits: 4, Both: 1}, {Phase: 1, I: 6, J: 1, Edits: 5, Both: 1}, {Phase: 1, I: 7, J: 1, Edits: 6, Both: 1}, {Phase: 1, I: 8, J: 1, Edits: 7, Both: 1}}, both, onlyX, onlyX, onlyX, onlyX, onlyX, onlyX, onlyX),
		"a part of two pieces that hang":   path([]api.Knot{{}, {I: 1}, {I: 1, J: 1}, {Phase: 1, I: 2, J: 2, Both: 1}}, hangX, hangY, both),
		"hangs where the other goes on":    path([]api.Knot{{}, one, {Phase: 2, I: 2, J: 1, Both: 1}, {Phase: 2, I: 2, J: 2, Both: 1}}, both, hangX, hangY),
		"hangs ahead of the overlap":       path([]api.Knot{{}, one, {Phase: 2, I: 2, J: 1, Both: 1}, {Phase: 1, I: 3, J: 2, Both: 2}}, both, hangX, both),
		"hangs within":                     path([]api.Knot{{}, one, {Phase: 1, I: 2, J: 1, Both: 1}}, both, hangX),
		"goes on behind the third part":    path([]api.Knot{{}, one, {Phase: 2, I: 2, J: 1, Both: 1}, {Phase: 2, I: 3, J: 1, Edits: 1, Both: 1}}, both, hangX, onlyX),
		"the first part is the third part": path([]api.Knot{{}, {I: 1}, {Phase: 2, I: 2}}, hangX, hangX),
		"an operation within the top":      path([]api.Knot{{}, {I: 1, J: 1, Both: 1}}, both),
		"an operation within the end":      path([]api.Knot{{}, {Phase: 2, I: 1, J: 1, Both: 1}}, both),
		"a phase that there is not":        path([]api.Knot{{}, {Phase: 3, I: 1, J: 1, Both: 1}}, both),
		"too many layers":                  longPath(25),
		"too many layers of X":             hangingPath(api.Knot{I: 1}, hangX, 24),
		"too many layers of Y":             hangingPath(api.Knot{J: 1}, hangY, 24),
	}
}

// longPath is a weave of pieces of n layers whose only join has operations OpBoth alone.
func longPath(n int) api.Weave {
	knots := []api.Knot{{}}
	for i := 1; i <= n; i++ {
		knots = append(knots, api.Knot{Phase: 1, I: i, J: i, Both: i})
	}
	return path(knots, slices.Repeat([]int{both}, n)...)
}

// hangingPath is a weave of one join: n years of one piece, which step counts, and then one of both.
func hangingPath(step api.Knot, op, n int) api.Weave {
	var knots []api.Knot
	for i := range n + 1 {
		knots = append(knots, api.Knot{I: i * step.I, J: i * step.J})
	}
	knots = append(knots, api.Knot{Phase: 1, I: n*step.I + 1, J: n*step.J + 1, Both: 1})
	return path(knots, append(slices.Repeat([]int{op}, n), both)...)
}

// P3.1: weaves that are well-formed, though no weave of pieces is like some of them.
func TestGoodWeaves(t *testing.T) {
	one := api.Knot{Phase: 1, I: 1, J: 1, Both: 1}
	for name, c := range map[string]struct {
		w     api.Weave
		count int
	}{
		"nil": {api.Weave{}, 0}, "empty": {api.Weave{Knots: []api.Knot{}, Threads: []api.Thread{}}, 0},
		"one operation": {path([]api.Knot{{}, one}, both), 1}, "as many layers as may be": {longPath(24), 1},
		"hangs at both ends":    {path([]api.Knot{{}, {J: 1}, {Phase: 1, I: 1, J: 2, Both: 1}, {Phase: 2, I: 2, J: 2, Both: 1}}, hangY, both, hangX), 1},
		"one way of several":    {path([]api.Knot{{}, {Phase: 1, I: 2, J: 1, Edits: 1}, {Phase: 1, I: 3, J: 2, Edits: 1, Both: 1}}, twoX, both), 1},
		"as many edits":         {path([]api.Knot{{}, {Phase: 1, J: 1, Edits: 1}, {Phase: 1, J: 2, Edits: 2}, {Phase: 1, J: 3, Edits: 3}, {Phase: 1, J: 4, Edits: 4}, {Phase: 1, J: 5, Edits: 5}, {Phase: 1, J: 6, Edits: 6}, {Phase: 1, I: 1, J: 7, Edits: 6, Both: 1}}, onlyY, onlyY, onlyY, onlyY, onlyY, onlyY, both), 1},
		"ends of two phases":    {endsOfTwoPhases(), 2},
		"as many layers of X":   {hangingPath(api.Knot{I: 1}, hangX, 23), 1},
		"as many layers of Y":   {hangingPath(api.Knot{J: 1}, hangY, 23), 1},
		"more than are counted": {path([]api.Knot{{}, one, {Phase: 1, I: 2, J: 2, Both: 1}}, both, both), 1},
	} {
		if n, e := lay.Count(c.w); n != c.count || e != api.OK || !isWellFormed(c.w) {
			t.Error(name, n, e, isWellFormed(c.w))
		}
	}
}

// endsOfTwoPhases has the joins {OpBoth, OpOnlyX} and {OpBoth, OpHangX}.
func endsOfTwoPhases() api.Weave {
	return api.Weave{
		Knots:   []api.Knot{{}, {Phase: 1, I: 1, J: 1, Both: 1}, {Phase: 1, I: 2, J: 1, Edits: 1, Both: 1}, {Phase: 2, I: 2, J: 1, Both: 1}},
		Threads: []api.Thread{{From: 0, To: 1, Op: both}, {From: 1, To: 2, Op: onlyX}, {From: 1, To: 3, Op: hangX}},
	}
}

// disturb changes something of a weave, or nothing.
func disturb(d *rand.Rand, w *api.Weave) {
	if d.IntN(2) == 0 && len(w.Threads) > 0 {
		i := d.IntN(len(w.Threads))
		switch d.IntN(5) {
		case 0:
			w.Threads[i].From += d.IntN(3) - 1
		case 1:
			w.Threads[i].To += d.IntN(3) - 1
		case 2:
			w.Threads[i].Op = d.IntN(9)
		case 3:
			w.Threads = slices.Delete(w.Threads, i, i+1)
		case 4:
			w.Threads = slices.Insert(w.Threads, i+1, api.Thread{From: w.Threads[i].From, To: d.IntN(len(w.Knots) + 1), Op: w.Threads[i].Op + 1})
		}
		return
	}
	if len(w.Knots) == 0 {
		return
	}
	i, by := d.IntN(len(w.Knots)), d.IntN(3)-1
	switch d.IntN(7) {
	case 0:
		w.Knots[i].Phase += by
	case 1:
		w.Knots[i].I += by
	case 2:
		w.Knots[i].J += by
	case 3:
		w.Knots[i].Edits += by
	case 4:
		w.Knots[i].Both += by
	case 5:
		w.Knots = slices.Delete(w.Knots, i, i+1)
	case 6:
		for i := range w.Knots { // all that are counted so far
			w.Knots[i].Both = min(w.Knots[i].Both, 1)
		}
	}
}

// P3.1: a weave is accepted if and only if the chapter's words allow it: weaves of pieces, parts of such, and weaves that are disturbed.
func TestWellFormed(t *testing.T) {
	d := dice(41)
	good, bad := 0, 0
	for range 3000 {
		w := copyOf(someWeave(d))
		for range d.IntN(3) {
			disturb(d, &w)
		}
		formed, e := isWellFormed(w), isAccepted(w)
		if formed != (e == api.OK) || !formed && e != api.ErrWeave {
			t.Fatal(w, formed, e)
		}
		if formed {
			good++
		} else {
			bad++
		}
	}
	if good < 500 || bad < 500 {
		t.Error("too little was tried", good, bad)
	}
}

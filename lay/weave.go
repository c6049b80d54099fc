package lay

import (
	"iter"
	"slices"

	"gyttja/api"
)

// loom has two pieces and the rule by which they are woven.
type loom struct {
	frame
	x, y []int
	rule api.Rule
}

// loomOf returns the errors that all functions of two pieces and a rule have.
func loomOf(x, y []int, r api.Rule) (loom, api.Errno) {
	if e := checkPieces(x, y); e != api.OK {
		return loom{}, e
	}
	if e := CheckRule(r); e != api.OK {
		return loom{}, e
	}
	return loom{frame{len(x), len(y), r.Overlap}, x, y, r}, api.OK
}

// step is the knot to which an operation leads; not ok if the pieces and the rule do not allow it.
func (l loom) step(k api.Knot, op int) (to api.Knot, ok bool) {
	to, ok = l.next(k, op)
	return to, ok && to.Edits <= l.rule.Edits && fits(l.x, l.y, k.I, k.J, op, l.rule.Tol)
}

// threads ranges over the operations that may follow a knot, each with the knot to which it leads.
func (l loom) threads(k api.Knot) iter.Seq2[int, api.Knot] {
	return func(yield func(int, api.Knot) bool) {
		for op := range len(uses) {
			if to, ok := l.step(k, op); ok && !yield(op, to) {
				return
			}
		}
	}
}

// places is the number of all knots that there could be; place numbers them in their order.
func (l loom) places() int {
	return l.place(api.Knot{Phase: api.PhaseEnd, I: l.n, J: l.m, Edits: l.rule.Edits, Both: l.overlap}) + 1
}

func (l loom) place(k api.Knot) int {
	p := k.Phase*(l.n+1) + k.I
	p = p*(l.m+1) + k.J
	p = p*(l.rule.Edits+1) + k.Edits
	return p*(l.overlap+1) + k.Both
}

// knot is the knot that has a place.
func (l loom) knot(p int) api.Knot {
	var k api.Knot
	k.Both, p = p%(l.overlap+1), p/(l.overlap+1)
	k.Edits, p = p%(l.rule.Edits+1), p/(l.rule.Edits+1)
	k.J, p = p%(l.m+1), p/(l.m+1)
	k.I, k.Phase = p%(l.n+1), p/(l.n+1)
	return k
}

// woven tells of each place whether its knot lies on a join. Threads lead only to later places.
func (l loom) woven() []bool {
	on := make([]bool, l.places())
	on[0] = true
	for p := range len(on) {
		if !on[p] {
			continue
		}
		for _, to := range l.threads(l.knot(p)) {
			on[l.place(to)] = true
		}
	}
	for p := range slices.Backward(on) {
		on[p] = on[p] && l.leadsOn(l.knot(p), on)
	}
	return on
}

// leadsOn reports whether a join may end at a knot or go on to one that is on a join.
func (l loom) leadsOn(k api.Knot, on []bool) bool {
	for _, to := range l.threads(k) {
		if on[l.place(to)] {
			return true
		}
	}
	return l.ends(k)
}

// weave returns the knots and the threads that lie on joins.
func (l loom) weave() api.Weave {
	on := l.woven()
	index := make([]int, len(on))
	var w api.Weave
	for p := range len(on) {
		if on[p] {
			index[p] = len(w.Knots)
			w.Knots = append(w.Knots, l.knot(p))
		}
	}
	for from, k := range w.Knots {
		for op, to := range l.threads(k) {
			if p := l.place(to); on[p] {
				w.Threads = append(w.Threads, api.Thread{From: from, To: index[p], Op: op})
			}
		}
	}
	return w
}

// Weave has all joins of two pieces.
func Weave(x, y []int, r api.Rule) (api.Weave, api.Errno) {
	l, e := loomOf(x, y, r)
	if e != api.OK {
		return api.Weave{}, e
	}
	return l.weave(), api.OK
}

// CheckWeave reports whether a weave is that of two pieces.
func CheckWeave(x, y []int, r api.Rule, w api.Weave) api.Errno {
	l, e := loomOf(x, y, r)
	if e != api.OK {
		return e
	}
	right := l.weave()
	if !slices.Equal(w.Knots, right.Knots) || !slices.Equal(w.Threads, right.Threads) {
		return api.ErrWeave
	}
	return api.OK
}

package lay

import (
	"cmp"
	"iter"
	"slices"

	"gyttja/api"
)

// web is a well-formed weave, with the frame of its joins.
type web struct {
	api.Weave
	frame
	first []int // of each knot the index of the first thread from it, and then the number of all threads
}

// open returns the error that all functions of a weave have.
func open(w api.Weave) (web, api.Errno) {
	if len(w.Knots) == 0 && len(w.Threads) == 0 {
		return web{}, api.OK
	}
	if !knotsRise(w.Knots) || !threadsRise(w) {
		return web{}, api.ErrWeave
	}
	o := web{Weave: w, first: firstThreads(w)}
	o.frame = o.lastFrame()
	if o.n < 1 || o.m < 1 || o.overlap < 1 || !o.endsRight() || !o.isTied() {
		return web{}, api.ErrWeave
	}
	return o, api.OK
}

// knotsRise reports whether knots are in their limits and in order.
func knotsRise(knots []api.Knot) bool {
	if len(knots) == 0 || knots[0] != (api.Knot{}) {
		return false
	}
	for i, k := range knots {
		if !within(k.I, 0, api.MaxPiece) || !within(k.J, 0, api.MaxPiece) || !within(k.Edits, 0, api.MaxEdits) || !within(k.Both, 0, api.MaxPiece) {
			return false
		}
		if i > 0 && compareKnots(knots[i-1], k) >= 0 {
			return false
		}
	}
	return true
}

func compareKnots(k, l api.Knot) int {
	return cmp.Or(cmp.Compare(k.Phase, l.Phase), cmp.Compare(k.I, l.I), cmp.Compare(k.J, l.J), cmp.Compare(k.Edits, l.Edits), cmp.Compare(k.Both, l.Both))
}

// threadsRise reports whether threads lie between knots and are in order.
func threadsRise(w api.Weave) bool {
	last := len(w.Knots) - 1
	for i, t := range w.Threads {
		if !within(t.From, 0, last) || !within(t.To, 0, last) {
			return false
		}
		if i > 0 && cmp.Or(cmp.Compare(w.Threads[i-1].From, t.From), cmp.Compare(w.Threads[i-1].Op, t.Op)) >= 0 {
			return false
		}
	}
	return true
}

func firstThreads(w api.Weave) []int {
	first := make([]int, len(w.Knots)+1)
	for _, t := range w.Threads {
		first[t.From+1]++
	}
	for i := range len(w.Knots) {
		first[i+1] += first[i]
	}
	return first
}

// lastFrame is the frame of the first one of the last knots.
func (w web) lastFrame() frame {
	for at, k := range w.Knots {
		if w.isLast(at) {
			return frame{k.I, k.J, k.Both}
		}
	}
	return frame{}
}

// endsRight reports whether joins may end at all last knots.
func (w web) endsRight() bool {
	for at, k := range w.Knots {
		if w.isLast(at) && !w.ends(k) {
			return false
		}
	}
	return true
}

// isTied reports whether each thread leads to where its operation leads, and some thread to each further knot.
func (w web) isTied() bool {
	reached := make([]bool, len(w.Knots))
	reached[0] = true
	for _, t := range w.Threads {
		to, ok := w.next(w.Knots[t.From], t.Op)
		if !ok || to != w.Knots[t.To] {
			return false
		}
		reached[t.To] = true
	}
	return !slices.Contains(reached, false)
}

func (w web) isEmpty() bool { return len(w.Knots) == 0 }

// isLast reports whether no thread leads from a knot.
func (w web) isLast(at int) bool { return w.first[at] == w.first[at+1] }

// from ranges over the threads from a knot.
func (w web) from(at int) iter.Seq[api.Thread] {
	return slices.Values(w.Threads[w.first[at]:w.first[at+1]])
}

// pairs ranges over the pairs of a thread.
func (w web) pairs(t api.Thread) iter.Seq[api.Pair] {
	k := w.Knots[t.From]
	return pairsOf(k.I, k.J, t.Op)
}

// firstJoin follows, from each knot, the first thread that passes; it is asked of the threads in order, with the number of years above them.
func (w web) firstJoin(passes func(above int, t api.Thread) bool) (api.Join, api.Errno) {
	if w.isEmpty() {
		return api.Join{}, api.ErrNone
	}
	var j api.Join
	at := 0
search:
	for !w.isLast(at) {
		for t := range w.from(at) {
			if passes(len(j.Ops), t) {
				j.Ops = append(j.Ops, t.Op)
				at = t.To
				continue search
			}
		}
		return api.Join{}, api.ErrNone
	}
	return j, api.OK
}

package lay

import (
	"cmp"
	"slices"

	"gyttja/api"
	"gyttja/pick"
)

// onward is, for each knot, the number of ways from it to last knots: in all at most as many as there are joins, since each knot is on one.
func (w web) onward() []int {
	ways := make([]int, len(w.Knots))
	for at := range slices.Backward(w.Knots) {
		if w.isLast(at) {
			ways[at] = 1
		}
		for t := range w.from(at) {
			ways[at] += ways[t.To]
		}
	}
	return ways
}

// toward is, for each knot, the number of ways to it from the first one.
func (w web) toward() []int {
	ways := make([]int, len(w.Knots))
	for at := range len(ways) {
		if at == 0 {
			ways[at] = 1
		}
		for t := range w.from(at) {
			ways[t.To] += ways[at]
		}
	}
	return ways
}

// joins is the number of joins, if so many ways lead onward from each knot.
func joins(onward []int) int {
	if len(onward) == 0 {
		return 0
	}
	return onward[0]
}

// Count is the number of joins of a weave.
func Count(w api.Weave) (int, api.Errno) {
	o, e := open(w)
	if e != api.OK {
		return 0, e
	}
	return joins(o.onward()), api.OK
}

// Nth is the join with a number.
func Nth(w api.Weave, n int) (api.Join, api.Errno) {
	o, e := open(w)
	if e != api.OK {
		return api.Join{}, e
	}
	onward := o.onward()
	if !within(n, 0, joins(onward)-1) {
		return api.Join{}, api.ErrNone
	}
	return o.firstJoin(func(_ int, t api.Thread) bool {
		if n < onward[t.To] {
			return true
		}
		n -= onward[t.To]
		return false
	})
}

// Rank is the number of a join.
func Rank(w api.Weave, j api.Join) (int, api.Errno) {
	o, e := open(w)
	if e != api.OK {
		return 0, e
	}
	if o.isEmpty() {
		return 0, api.ErrJoin
	}
	onward := o.onward()
	at, rank := 0, 0
follow:
	for _, op := range j.Ops {
		for t := range o.from(at) {
			if t.Op == op {
				at = t.To
				continue follow
			}
			rank += onward[t.To]
		}
		return 0, api.ErrJoin
	}
	if !o.isLast(at) {
		return 0, api.ErrJoin
	}
	return rank, api.OK
}

// Choose is a join that numbers choose.
func Choose(w api.Weave, picks []int) (api.Join, api.Errno) {
	o, e := open(w)
	if e != api.OK {
		return api.Join{}, e
	}
	return o.firstJoin(func(above int, t api.Thread) bool {
		first, behind := o.first[t.From], o.first[t.From+1]
		return t == o.Threads[first+pick.Index(picks, above, behind-first)]
	})
}

// had has the pairs that some joins have, each with the number of these joins. No join has a pair twice.
func (w web) had(onward []int) map[api.Pair]int {
	toward := w.toward()
	had := map[api.Pair]int{}
	for _, t := range w.Threads {
		for p := range w.pairs(t) {
			had[p] += toward[t.From] * onward[t.To]
		}
	}
	return had
}

// hadBy returns the pairs that at least so many joins have, in order.
func hadBy(had map[api.Pair]int, least int) []api.Pair {
	var pairs []api.Pair
	for p, by := range had {
		if by >= least {
			pairs = append(pairs, p)
		}
	}
	slices.SortFunc(pairs, func(p, q api.Pair) int { return cmp.Or(cmp.Compare(p.I, q.I), cmp.Compare(p.J, q.J)) })
	return pairs
}

// May returns the pairs of some join.
func May(w api.Weave) ([]api.Pair, api.Errno) {
	o, e := open(w)
	if e != api.OK {
		return nil, e
	}
	return hadBy(o.had(o.onward()), 1), api.OK
}

// Sure returns the pairs of all joins.
func Sure(w api.Weave) ([]api.Pair, api.Errno) {
	o, e := open(w)
	if e != api.OK {
		return nil, e
	}
	onward := o.onward()
	return hadBy(o.had(onward), joins(onward)), api.OK
}

package lay

import (
	"slices"

	"gyttja/api"
)

// frame is what joins have in common: all layers of X and Y, and how many operations OpBoth are counted, each of which they need.
type frame struct{ n, m, overlap int }

// next is the knot to which an operation leads; not ok if it may not follow the knot, whatever the thicknesses.
func (f frame) next(k api.Knot, op int) (to api.Knot, ok bool) {
	if !isOp(op) {
		return api.Knot{}, false
	}
	phase, ok := f.phase(k, op)
	u := uses[op]
	to = api.Knot{Phase: phase, I: k.I + u.x, J: k.J + u.y, Edits: k.Edits + u.edits, Both: k.Both}
	if op == api.OpBoth {
		to.Both = min(k.Both+1, f.overlap)
	}
	return to, ok && to.I <= f.n && to.J <= f.m
}

// phase is the phase to which an operation leads from a knot, if it may.
func (f frame) phase(k api.Knot, op int) (phase int, ok bool) {
	used, all := k.J, f.m // of the piece that does not hang
	switch op {
	case api.OpHangX:
	case api.OpHangY:
		used, all = k.I, f.n
	default:
		return api.PhaseIn, k.Phase != api.PhaseEnd
	}
	if k.Phase == api.PhaseTop {
		return api.PhaseTop, used == 0
	}
	return api.PhaseEnd, used == all && k.Both == f.overlap
}

// ends reports whether a join may end at a knot.
func (f frame) ends(k api.Knot) bool {
	return k.Phase != api.PhaseTop && k.I == f.n && k.J == f.m && k.Both == f.overlap
}

// isJoin reports whether operations lead to an end by steps that are allowed.
func (f frame) isJoin(ops []int, step func(api.Knot, int) (api.Knot, bool)) bool {
	k := api.Knot{}
	for _, op := range ops {
		to, ok := step(k, op)
		if !ok {
			return false
		}
		k = to
	}
	return f.ends(k)
}

// CheckJoin reports whether a join of two pieces is allowed.
func CheckJoin(x, y []int, r api.Rule, j api.Join) api.Errno {
	l, e := loomOf(x, y, r)
	if e != api.OK {
		return e
	}
	if !l.isJoin(j.Ops, l.step) {
		return api.ErrJoin
	}
	return api.OK
}

// Edits is the number of years of a join that are missing or doubled.
func Edits(j api.Join) int {
	edits := 0
	for _, op := range j.Ops {
		if isOp(op) {
			edits += uses[op].edits
		}
	}
	return edits
}

// Turn is the join with X and Y exchanged.
func Turn(j api.Join) api.Join {
	ops := slices.Clone(j.Ops)
	for i, op := range ops {
		if isOp(op) {
			ops[i] = uses[op].turned
		}
	}
	return api.Join{Ops: ops}
}

// Years tells, of each layer, how many years it lies below X's first one.
func Years(x, y []int, j api.Join) (xs, ys []int, e api.Errno) {
	if e := checkPieces(x, y); e != api.OK {
		return nil, nil, e
	}
	// Without an overlap, only the form is in question.
	f := frame{n: len(x), m: len(y)}
	if !f.isJoin(j.Ops, f.next) {
		return nil, nil, api.ErrJoin
	}
	for year, op := range j.Ops {
		xs = append(xs, slices.Repeat([]int{year}, uses[op].x)...)
		ys = append(ys, slices.Repeat([]int{year}, uses[op].y)...)
	}
	top := xs[0]
	for _, years := range [][]int{xs, ys} {
		for i := range years {
			years[i] -= top
		}
	}
	return xs, ys, api.OK
}

// Pairs returns the layers that a join takes for one year.
func Pairs(j api.Join) []api.Pair {
	var pairs []api.Pair
	x, y := 0, 0 // layers that are used
	for _, op := range j.Ops {
		if !isOp(op) {
			continue
		}
		pairs = slices.AppendSeq(pairs, pairsOf(x, y, op))
		x += uses[op].x
		y += uses[op].y
	}
	return pairs
}

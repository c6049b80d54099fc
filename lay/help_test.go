package lay_test

import (
	"cmp"
	"math"
	"math/rand/v2"
	"slices"

	"gyttja/api"
	"gyttja/lay"
)

const (
	both  = api.OpBoth
	onlyX = api.OpOnlyX
	onlyY = api.OpOnlyY
	twoX  = api.OpTwoX
	twoY  = api.OpTwoY
	hangX = api.OpHangX
	hangY = api.OpHangY
)

// extremes are numbers at and beyond all limits.
var extremes = []int{math.MinInt, math.MinInt + 3, -100001, -49, -48, -24, -1, 0, 1, 2, 6, 7, 8, 23, 24, 25, 48, 49, 64, 100000, 100001, math.MaxInt - 3, math.MaxInt}

func dice(seed uint64) *rand.Rand { return rand.New(rand.NewPCG(seed, 3)) }

func ops(l ...int) api.Join { return api.Join{Ops: l} }

// example has the pieces and the rule of the chapter's examples.
func example() (x, y []int, r api.Rule) {
	return []int{10, 20, 5}, []int{30, 5}, api.Rule{Edits: 1, Overlap: 1}
}

// exampleWeave is the weave of the examples, as the chapter has it.
func exampleWeave() api.Weave {
	return api.Weave{
		Knots:   []api.Knot{{}, {I: 1}, {I: 2}, {Phase: 1, I: 2, J: 1, Edits: 1}, {Phase: 1, I: 3, J: 2, Edits: 1, Both: 1}},
		Threads: []api.Thread{{From: 0, To: 3, Op: 4}, {From: 0, To: 1, Op: 6}, {From: 1, To: 2, Op: 6}, {From: 2, To: 3, Op: 3}, {From: 3, To: 4, Op: 1}},
	}
}

func alike(n int) []int { return slices.Repeat([]int{1}, n) }

// somePiece has few layers, of thicknesses that often fit.
func somePiece(d *rand.Rand, most int) []int {
	var x []int
	for range 1 + d.IntN(most) {
		x = append(x, 1+d.IntN(5))
	}
	return x
}

func someRule(d *rand.Rand) api.Rule {
	return api.Rule{Tol: d.IntN(3), Edits: d.IntN(4), Overlap: 1 + d.IntN(2)}
}

// layersOf says, of an operation, what the chapter's table says.
func layersOf(op int) (x, y, edits int) {
	switch op {
	case both:
		return 1, 1, 0
	case onlyX:
		return 1, 0, 1
	case onlyY:
		return 0, 1, 1
	case twoX:
		return 2, 1, 1
	case twoY:
		return 1, 2, 1
	case hangX:
		return 1, 0, 0
	case hangY:
		return 0, 1, 0
	}
	return 0, 0, 0
}

// usedBy is how many layers a list of operations uses, and its edits and operations OpBoth.
func usedBy(l []int) (x, y, edits, fit int) {
	for _, op := range l {
		a, b, c := layersOf(op)
		x, y, edits = x+a, y+b, edits+c
		if op == both {
			fit++
		}
	}
	return x, y, edits, fit
}

// hasForm says what the chapter says of the form of a join: three parts.
func hasForm(n, m int, l []int) bool {
	for _, op := range l {
		if op < 1 || op > 7 {
			return false
		}
	}
	first := slices.IndexFunc(l, func(op int) bool { return op < hangX })
	if first < 0 {
		return false
	}
	last := first
	for i, op := range l {
		if op < hangX {
			last = i
		}
	}
	for _, part := range [][]int{l[:first], l[last+1:]} {
		if len(slices.Compact(slices.Clone(part))) > 1 {
			return false
		}
	}
	if slices.ContainsFunc(l[first:last+1], func(op int) bool { return op >= hangX }) {
		return false
	}
	x, y, _, _ := usedBy(l)
	return x == n && y == m
}

// isAllowed says what the chapter says of joins that are allowed.
func isAllowed(x, y []int, r api.Rule, l []int) bool {
	if !hasForm(len(x), len(y), l) {
		return false
	}
	i, j := 0, 0
	for _, op := range l {
		a, b, _ := layersOf(op)
		apart := 0
		for _, thick := range x[i : i+a] {
			apart += thick
		}
		for _, thick := range y[j : j+b] {
			apart -= thick
		}
		if (op == both || op == twoX || op == twoY) && max(apart, -apart) > r.Tol {
			return false
		}
		i, j = i+a, j+b
	}
	_, _, edits, fit := usedBy(l)
	return edits <= r.Edits && fit >= r.Overlap
}

// allLists has all lists of operations that use so many layers, in order.
func allLists(n, m int) [][]int {
	var found [][]int
	var grow func(n, m int, l []int)
	grow = func(n, m int, l []int) {
		if n == 0 && m == 0 {
			found = append(found, slices.Clone(l))
		}
		for op := 1; op <= 7; op++ {
			if x, y, _ := layersOf(op); x <= n && y <= m {
				grow(n-x, m-y, append(l, op))
			}
		}
	}
	grow(n, m, nil)
	return found
}

// allJoins tries all lists.
func allJoins(x, y []int, r api.Rule) [][]int {
	return slices.DeleteFunc(allLists(len(x), len(y)), func(l []int) bool { return !isAllowed(x, y, r, l) })
}

// knotsOn are the knots of a join, from the first one on, if so many operations OpBoth are counted.
func knotsOn(l []int, overlap int) []api.Knot {
	knots := []api.Knot{{}}
	for n := 1; n <= len(l); n++ {
		x, y, edits, fit := usedBy(l[:n])
		k := api.Knot{I: x, J: y, Edits: edits, Both: min(fit, overlap)}
		if first := slices.IndexFunc(l[:n], func(op int) bool { return op < hangX }); first >= 0 {
			k.Phase = api.PhaseIn
			if l[n-1] >= hangX {
				k.Phase = api.PhaseEnd
			}
		}
		knots = append(knots, k)
	}
	return knots
}

// weaveOf puts the weave of joins together from each of them.
func weaveOf(joins [][]int, overlap int) api.Weave {
	set := map[api.Knot]bool{}
	for _, l := range joins {
		for _, k := range knotsOn(l, overlap) {
			set[k] = true
		}
	}
	var w api.Weave
	for k := range set {
		w.Knots = append(w.Knots, k)
	}
	slices.SortFunc(w.Knots, inOrder)
	threads := map[api.Thread]bool{}
	for _, l := range joins {
		knots := knotsOn(l, overlap)
		for i, op := range l {
			threads[api.Thread{From: slices.Index(w.Knots, knots[i]), To: slices.Index(w.Knots, knots[i+1]), Op: op}] = true
		}
	}
	for t := range threads {
		w.Threads = append(w.Threads, t)
	}
	slices.SortFunc(w.Threads, func(s, t api.Thread) int { return slices.Compare([]int{s.From, s.Op}, []int{t.From, t.Op}) })
	return w
}

func numbersOf(k api.Knot) []int { return []int{k.Phase, k.I, k.J, k.Edits, k.Both} }

func inOrder(k, l api.Knot) int { return slices.Compare(numbersOf(k), numbersOf(l)) }

// joinsOf follows all paths of a weave, in order.
func joinsOf(w api.Weave) [][]int {
	var found [][]int
	var follow func(at int, l []int)
	follow = func(at int, l []int) {
		last := true
		for _, t := range w.Threads {
			if t.From == at {
				follow(t.To, append(l, t.Op))
				last = false
			}
		}
		if last {
			found = append(found, slices.Clone(l))
		}
	}
	if len(w.Knots) > 0 {
		follow(0, nil)
	}
	return found
}

// thinned leaves out threads of a weave, and then what lies on no join any more.
func thinned(d *rand.Rand, w api.Weave) api.Weave {
	last := map[int]bool{}
	for at := range w.Knots {
		last[at] = !slices.ContainsFunc(w.Threads, func(t api.Thread) bool { return t.From == at })
	}
	left := slices.DeleteFunc(slices.Clone(w.Threads), func(api.Thread) bool { return d.IntN(5) == 0 })
	for before := len(left) + 1; len(left) < before; {
		before = len(left)
		leads, led := map[int]bool{}, map[int]bool{0: true}
		for _, t := range left {
			leads[t.From], led[t.To] = true, true
		}
		left = slices.DeleteFunc(left, func(t api.Thread) bool { return !led[t.From] || !leads[t.To] && !last[t.To] })
	}
	if len(left) == 0 {
		return api.Weave{}
	}
	index := map[int]int{}
	var thin api.Weave
	for at, k := range w.Knots {
		if slices.ContainsFunc(left, func(t api.Thread) bool { return t.From == at || t.To == at }) {
			index[at] = len(thin.Knots)
			thin.Knots = append(thin.Knots, k)
		}
	}
	for _, t := range left {
		thin.Threads = append(thin.Threads, api.Thread{From: index[t.From], To: index[t.To], Op: t.Op})
	}
	return thin
}

// someWeave is the weave of small pieces, or what is left of the weave of pieces whose layers all fit: few pieces, if any, have such a weave.
func someWeave(d *rand.Rand) api.Weave {
	if d.IntN(2) == 0 {
		w, _ := lay.Weave(somePiece(d, 4), somePiece(d, 4), someRule(d))
		return w
	}
	w, _ := lay.Weave(alike(1+d.IntN(4)), alike(1+d.IntN(4)), api.Rule{Tol: 1, Edits: d.IntN(3), Overlap: 1 + d.IntN(2)})
	return thinned(d, w)
}

// yearsIn are the years of layers, from the operations that use them.
func yearsIn(l []int) (xs, ys []int) {
	for year, op := range l {
		x, y, _ := layersOf(op)
		for range x {
			xs = append(xs, year)
		}
		for range y {
			ys = append(ys, year)
		}
	}
	top := xs[0]
	for i := range xs {
		xs[i] -= top
	}
	for i := range ys {
		ys[i] -= top
	}
	return xs, ys
}

func offsetIn(l []int) api.Offset {
	xs, ys := yearsIn(l)
	return api.Offset{XEnd: xs[len(xs)-1], YTop: ys[0], YEnd: ys[len(ys)-1]}
}

// pairsIn are the pairs of layers that have the same year, in order.
func pairsIn(l []int) []api.Pair {
	xs, ys := yearsIn(l)
	var pairs []api.Pair
	for i, x := range xs {
		for j, y := range ys {
			if x == y {
				pairs = append(pairs, api.Pair{I: i, J: j})
			}
		}
	}
	return pairs
}

func byPair(p, q api.Pair) int { return cmp.Or(cmp.Compare(p.I, q.I), cmp.Compare(p.J, q.J)) }

func sameWeave(v, w api.Weave) bool {
	return slices.Equal(v.Knots, w.Knots) && slices.Equal(v.Threads, w.Threads)
}

func copyOf(w api.Weave) api.Weave {
	return api.Weave{Knots: slices.Clone(w.Knots), Threads: slices.Clone(w.Threads)}
}

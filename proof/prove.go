package proof

import (
	"cmp"
	"slices"

	"gyttja/api"
	"gyttja/cases"
	"gyttja/span"
)

// prover makes trees of a valid world, at each end of which a chain contradicts or shows one of some bounds.
type prover struct {
	api.World
	bounds []bound
}

// nodesFor returns nodes of a valid world at whose ends it is so; ErrOpen if some leaf breaks all bounds.
func nodesFor(w api.World, bounds ...bound) ([]api.Node, api.Errno) {
	p := prover{w, bounds}
	l, ok := p.nodes(w.Claims, p.order())
	if !ok {
		return nil, api.ErrOpen
	}
	return l, api.OK
}

// order is that in which questions are asked: with few choices first, so that even the tree of all leaves has not too many nodes.
func (p prover) order() []int {
	order := make([]int, len(p.Questions))
	for i := range order {
		order[i] = i
	}
	slices.SortStableFunc(order, func(i, j int) int {
		return cmp.Compare(len(p.Questions[i].Choices), len(p.Questions[j].Choices))
	})
	return order
}

// nodes returns the tree to which claims lead, that asks some of the questions that are left; it is not ok if there is none.
func (p prover) nodes(claims []api.Claim, left []int) (l []api.Node, ok bool) {
	if chain, ok := p.chain(claims); ok {
		return []api.Node{{Question: ended, Chain: chain}}, true
	}
	if len(left) == 0 {
		return nil, false
	}
	var trees [][]api.Node
	for _, further := range p.Questions[left[0]].Choices {
		t, ok := p.nodes(slices.Concat(claims, further), left[1:])
		if !ok {
			return nil, false
		}
		trees = append(trees, t)
	}
	return asking(p.World, left[0], len(claims), trees), true
}

// chain returns what an end may have with these claims on the way; it is not ok if there is no such chain.
func (p prover) chain(claims []api.Claim) (chain []api.Step, ok bool) {
	if cycle, _ := span.Cycle(claims); len(cycle) > 0 {
		return cycle, true
	}
	for _, x := range p.bounds {
		if chain, ok := x.chain(claims); ok {
			return chain, true
		}
	}
	return nil, false
}

// chain returns a chain of claims that shows a bound; it is not ok if there is none.
func (x bound) chain(claims []api.Claim) (chain []api.Step, ok bool) {
	if x.a == x.b {
		return nil, x.most >= 0
	}
	most, chain, e := span.Most(claims, x.a, x.b)
	if e != api.OK || most > x.most {
		return nil, false
	}
	return chain, true
}

// proofOf returns a proof of a bound, or its error.
func proofOf(w api.World, x bound) (api.Proof, api.Errno) {
	if e := checkMarks(w, x.a, x.b); e != api.OK {
		return api.Proof{}, e
	}
	l, e := nodesFor(w, x)
	if e != api.OK {
		return api.Proof{}, e
	}
	return api.Proof{A: x.a, B: x.b, Most: x.most, Nodes: l}, api.OK
}

// Prove returns the least bound of the years between two marks, with its proof.
func Prove(w api.World, a, b int) (api.Proof, api.Errno) {
	_, most, e := cases.Bounds(w, a, b)
	if e != api.OK {
		return api.Proof{}, e
	}
	if most == api.Far {
		return api.Proof{}, api.ErrFar
	}
	return proofOf(w, bound{a, b, most})
}

// ProveMost returns a proof of a bound.
func ProveMost(w api.World, a, b, most int) (api.Proof, api.Errno) {
	return proofOf(w, bound{a, b, most})
}

// ProveNone returns nodes that show that there is no chronology.
func ProveNone(w api.World) ([]api.Node, api.Errno) {
	if e := cases.Check(w); e != api.OK {
		return nil, e
	}
	return nodesFor(w)
}

// ProveNot returns nodes that show that so many years cannot lie between two marks.
func ProveNot(w api.World, a, b, years int) ([]api.Node, api.Errno) {
	if e := checkYears(w, a, b, years); e != api.OK {
		return nil, e
	}
	return nodesFor(w, notSo(a, b, years)...)
}

// ProveOlder returns a proof that the first event is older than the second one.
func ProveOlder(w api.World, v, u api.Event) (api.Proof, api.Errno) {
	if e := checkEvents(v, u); e != api.OK {
		return api.Proof{}, e
	}
	return proofOf(w, older(v, u))
}

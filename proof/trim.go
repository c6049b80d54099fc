package proof

import (
	"slices"

	"gyttja/api"
	"gyttja/cases"
)

// Trim returns a proof without questions that it does not need.
func Trim(w api.World, p api.Proof) (api.Proof, api.Errno) {
	if e := Check(w, p); e != api.OK {
		return api.Proof{}, e
	}
	t, _ := treeOf(w, p.Nodes)
	p.Nodes = cloned(t.trimmed(w, len(w.Claims)))
	return p, api.OK
}

// trimmed returns the nodes of a tree without questions that it does not need; so many claims are on the way to it. They share their chains with the tree.
func (t tree) trimmed(w api.World, claims int) []api.Node {
	if t.Question == ended {
		return []api.Node{t.Node}
	}
	var trees [][]api.Node
	for i, further := range w.Questions[t.Question].Choices {
		trees = append(trees, t.choices[i].trimmed(w, claims+len(further)))
	}
	return asking(w, t.Question, claims, trees)
}

// asking returns the tree that asks a question behind so many claims on the way, with the trees of its choices; or, if no step in one of these uses a claim of its choice, the first such one, as it is without that choice.
func asking(w api.World, question, claims int, trees [][]api.Node) []api.Node {
	for i, l := range trees {
		further := claims + len(w.Questions[question].Choices[i])
		if !uses(l, claims, further) {
			return without(l, claims, further)
		}
	}
	return append([]api.Node{{Question: question}}, slices.Concat(trees...)...)
}

// uses reports whether a step uses a claim with an index from first on and ahead of end.
func uses(l []api.Node, first, end int) bool {
	return slices.ContainsFunc(l, func(n api.Node) bool {
		return slices.ContainsFunc(n.Chain, func(s api.Step) bool { return within(s.Claim, first, end-1) })
	})
}

// without returns nodes as they are if there are no claims, on the way, with the indices from first on and ahead of end, which no step uses.
func without(l []api.Node, first, end int) []api.Node {
	same := func(question int) int { return question }
	return renumbered(l, same, func(claim int) int {
		if claim < end {
			return claim
		}
		return claim - (end - first)
	})
}

// renumbered returns a copy of nodes with other numbers of their questions and claims.
func renumbered(l []api.Node, question, claim func(int) int) []api.Node {
	l = cloned(l)
	for i, n := range l {
		if n.Question != ended {
			l[i].Question = question(n.Question)
		}
		for k, s := range n.Chain {
			n.Chain[k].Claim = claim(s.Claim)
		}
	}
	return l
}

// cloned returns a copy of nodes that shares no memory with them.
func cloned(l []api.Node) []api.Node {
	l = slices.Clone(l)
	for i, n := range l {
		l[i].Chain = slices.Clone(n.Chain)
	}
	return l
}

// Depth is the greatest number of questions on a way of nodes; -1, if they are no tree.
func Depth(w api.World, l []api.Node) int {
	if cases.Check(w) != api.OK {
		return -1
	}
	t, e := treeOf(w, l)
	if e != api.OK {
		return -1
	}
	return t.depth()
}

// Weaken returns the proof with a greater bound.
func Weaken(p api.Proof, most int) (api.Proof, api.Errno) {
	if most < p.Most {
		return api.Proof{}, api.ErrOpen
	}
	return api.Proof{A: p.A, B: p.B, Most: most, Nodes: cloned(p.Nodes)}, api.OK
}

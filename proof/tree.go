package proof

import (
	"iter"
	"slices"

	"gyttja/api"
)

// ended is the Question of an end.
const ended = -1

// tree is a node, and what stands behind it: a tree for each choice, if it asks.
type tree struct {
	api.Node
	choices []tree
}

// reader reads nodes of a world, one after the other.
type reader struct {
	api.World
	left []api.Node // those that are not read yet
}

// treeOf returns the tree of a valid world that nodes are.
func treeOf(w api.World, l []api.Node) (tree, api.Errno) {
	if len(l) > api.MaxNodes {
		return tree{}, api.ErrLong
	}
	r := reader{w, l}
	t, ok := r.read([api.MaxQuestions]bool{})
	if !ok || len(r.left) > 0 {
		return tree{}, api.ErrProof
	}
	return t, api.OK
}

// read returns the tree that stands next, behind nodes that asked some questions.
func (r *reader) read(asked [api.MaxQuestions]bool) (t tree, ok bool) {
	if len(r.left) == 0 {
		return tree{}, false
	}
	t.Node = r.left[0]
	r.left = r.left[1:]
	q := t.Question
	if q == ended {
		return t, true
	}
	if !within(q, 0, len(r.Questions)-1) || asked[q] || len(t.Chain) > 0 {
		return tree{}, false
	}
	asked[q] = true
	for range r.Questions[q].Choices {
		choice, ok := r.read(asked)
		if !ok {
			return tree{}, false
		}
		t.choices = append(t.choices, choice)
	}
	return t, true
}

// ends ranges over the ends of a tree of a world: the claims on the way to each, and its chain.
func (t tree) ends(w api.World) iter.Seq2[[]api.Claim, []api.Step] {
	return func(yield func([]api.Claim, []api.Step) bool) { t.visit(w, w.Claims, yield) }
}

// visit goes through the ends of a tree, to which claims lead, until yield asks for no more.
func (t tree) visit(w api.World, claims []api.Claim, yield func([]api.Claim, []api.Step) bool) (more bool) {
	if t.Question == ended {
		return yield(claims, t.Chain)
	}
	for i, further := range w.Questions[t.Question].Choices {
		if !t.choices[i].visit(w, slices.Concat(claims, further), yield) {
			return false
		}
	}
	return true
}

// depth is the greatest number of nodes that ask above an end.
func (t tree) depth() int {
	most := 0
	for _, choice := range t.choices {
		most = max(most, 1+choice.depth())
	}
	return most
}

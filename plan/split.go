package plan

import (
	"slices"

	"gyttja/api"
	"gyttja/cases"
)

// Split returns, for each choice of a question, the counts that a piece may have if this choice holds.
func Split(w api.World, p api.Piece, question int) ([][]api.Run, api.Errno) {
	if _, e := Outcomes(w, p); e != api.OK {
		return nil, e
	}
	if !within(question, 0, len(w.Questions)-1) {
		return nil, api.ErrArg
	}
	leaves, _ := cases.Leaves(w)
	var lists [][]api.Run
	for choice := range w.Questions[question].Choices {
		others := func(leaf []int) bool { return leaf[question] != choice }
		s := surveyAt(w, slices.DeleteFunc(slices.Clone(leaves), others), p.A, p.B)
		lists = append(lists, s.outcomes(p))
	}
	return lists, api.OK
}

// pair is two marks, by their indices.
type pair struct{ a, b int }

// mostMore is the greatest number of years by which one pair can lie further apart than another one. Chains lead from the first mark of the one and the last of the other to the marks that are left: there are two ways to put together two such chains, and what they show together is exact.
func (x bounds) mostMore(one, other pair) int {
	return min(sum(x[one.a][one.b], 0, x[other.b][other.a]), sum(x[one.a][other.a], 0, x[other.b][one.b]))
}

// Asks reports whether two pieces are the same question.
func Asks(w api.World, p, r api.Piece) (bool, api.Errno) {
	l := []api.Piece{p, r}
	if e := checkPieces(l); e != api.OK {
		return false, e
	}
	for _, x := range l {
		if _, e := cases.Values(w, x.A, x.B); e != api.OK {
			return false, e
		}
	}
	s, _ := surveyOf(w, p.A, p.B, r.A, r.B)
	one, other := pair{s.place(p.A), s.place(p.B)}, pair{s.place(r.A), s.place(r.B)}
	return !slices.ContainsFunc(s.leaves, func(x bounds) bool {
		return x.mostMore(one, other) > 0 || x.mostMore(other, one) > 0
	}), api.OK
}

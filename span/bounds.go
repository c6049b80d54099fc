package span

import (
	"slices"

	"gyttja/api"
)

// between is the closure of claims, and the places of two marks in it.
type between struct {
	draft
	a, b int
}

// closeBetween returns the errors that all functions of two marks have.
func closeBetween(l []api.Claim, a, b int) (between, api.Errno) {
	if e := Check(l); e != api.OK {
		return between{}, e
	}
	g := graphOf(l, everyClaim)
	i, j := place(g.marks, a), place(g.marks, b)
	if i == none || j == none {
		return between{}, api.ErrMark
	}
	d, ok := closure(g)
	if !ok {
		return between{}, api.ErrChronology
	}
	return between{d, i, j}, api.OK
}

// Bounds returns the least and the greatest number of years between two marks.
func Bounds(l []api.Claim, a, b int) (lo, hi int, e api.Errno) {
	n, e := closeBetween(l, a, b)
	if e != api.OK {
		return 0, 0, e
	}
	return -n.Most[n.b][n.a], n.Most[n.a][n.b], api.OK
}

// Most returns the greatest number of years between two marks, and a chain that shows it.
func Most(l []api.Claim, a, b int) (int, []api.Step, api.Errno) {
	n, e := closeBetween(l, a, b)
	if e != api.OK {
		return 0, nil, e
	}
	if n.far(n.a, n.b) {
		return 0, nil, api.ErrFar
	}
	return n.Most[n.a][n.b], n.leastChain(graphOf(l, everyClaim).moves), api.OK
}

// leads reports whether a move is the first one of a chain of the least bound to b.
func (n between) leads(m move) bool { return n.Most[m.from][n.b] == m.most+n.Most[m.to][n.b] }

// leastChain returns the first one of the shortest chains of the least bound from a to b.
func (n between) leastChain(moves []move) []api.Step {
	left := n.stepsLeft(moves)
	var chain []api.Step
	for at := n.a; at != n.b; {
		// The moves are in the order of steps: the first one that is no detour is the least one.
		i := slices.IndexFunc(moves, func(m move) bool {
			return m.from == at && left[m.to] == left[at]-1 && n.leads(m)
		})
		chain = append(chain, moves[i].Step)
		at = moves[i].to
	}
	return chain
}

// stepsLeft returns how few steps lead from marks to b by chains of the least bound: of a, and of all marks that are nearer to b.
func (n between) stepsLeft(moves []move) []int {
	left := slices.Repeat([]int{none}, len(n.Marks))
	left[n.b] = 0
search:
	for steps := range len(n.Marks) {
		for _, m := range moves {
			if left[n.a] != none {
				break search
			}
			if left[m.to] == steps && left[m.from] == none && n.leads(m) {
				left[m.from] = steps + 1
			}
		}
	}
	return left
}

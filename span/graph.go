package span

import (
	"slices"

	"gyttja/api"
	"gyttja/mark"
)

// move is a step, with the places of the marks that it joins, and the bound that it shows.
type move struct {
	api.Step
	from, to, most int
}

// graph has marks, and the moves along claims: in the order of steps.
type graph struct {
	marks []int
	moves []move
}

func everyClaim(int) bool { return true }

// graphOf returns the graph of the claims of a valid list that may be used, by their indices.
func graphOf(l []api.Claim, usable func(int) bool) graph {
	used := make([]api.Claim, 0, len(l))
	for i, c := range l {
		if usable(i) {
			used = append(used, c)
		}
	}
	g := graph{mark.OfClaims(used), make([]move, 0, 2*len(used))}
	for i, c := range l {
		if !usable(i) {
			continue
		}
		a, b := place(g.marks, c.A), place(g.marks, c.B)
		g.moves = append(g.moves,
			move{api.Step{Claim: i}, a, b, c.Hi},
			move{api.Step{Claim: i, Back: true}, b, a, -c.Lo})
	}
	return g
}

// firstTied returns, for each mark, the place of the first mark that is tied to it.
func (g graph) firstTied() []int {
	first := make([]int, len(g.marks))
	for i := range len(first) {
		first[i] = i
	}
	// A chain from the first mark has fewer steps than there are marks: so many rounds tell all.
	for range len(g.marks) {
		for _, m := range g.moves {
			first[m.to] = min(first[m.to], first[m.from])
		}
	}
	return first
}

// lowered begins with the year 0 for all marks and lowers years as moves ask for it. It returns the index of the move that lowered each mark last, and a mark that was lowered in the last one of as many rounds as there are marks: there is none if there are chronologies.
func (g graph) lowered() (by []int, late int) {
	years := make([]int, len(g.marks))
	by = slices.Repeat([]int{none}, len(g.marks))
	late = none
	for range len(g.marks) {
		late = none
		for i, m := range g.moves {
			if year := years[m.from] + m.most; year < years[m.to] {
				years[m.to], by[m.to], late = year, i, m.to
			}
		}
		if late == none {
			break
		}
	}
	return by, late
}

// contradicts reports whether there is no chronology.
func (g graph) contradicts() bool {
	_, late := g.lowered()
	return late != none
}

// cycle returns a chain that contradicts, if there is one.
func (g graph) cycle() []api.Step {
	by, at := g.lowered()
	if at == none {
		return nil
	}
	// The moves that lowered the years, followed back from here, end in a ring: after so many of them, the mark is on it.
	for range len(g.marks) {
		at = g.moves[by[at]].from
	}
	var chain []api.Step
	for end := at; len(chain) == 0 || at != end; {
		m := g.moves[by[at]]
		chain = append(chain, m.Step)
		at = m.from
	}
	slices.Reverse(chain)
	return chain
}

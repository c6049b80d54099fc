package proof

import (
	"maps"
	"slices"

	"gyttja/api"
	"gyttja/cases"
)

// Sources returns the sources on which a proof rests.
func Sources(w api.World, l []api.Node) ([]int, api.Errno) {
	if e := cases.Check(w); e != api.OK {
		return nil, e
	}
	t, e := treeOf(w, l)
	if e != api.OK {
		return nil, e
	}
	sources := map[int]bool{}
	for _, n := range l {
		if n.Question != ended {
			sources[w.Questions[n.Question].By] = true
		}
	}
	for claims, chain := range t.ends(w) {
		for _, s := range chain {
			if !within(s.Claim, 0, len(claims)-1) {
				return nil, api.ErrProof
			}
			sources[claims[s.Claim].By] = true
		}
	}
	return slices.Sorted(maps.Keys(sources)), api.OK
}

// Rests reports whether a proof still stands in the world without some sources, and returns it for that world.
func Rests(w api.World, p api.Proof, by []int) (api.Proof, api.Errno) {
	if e := Check(w, p); e != api.OK {
		return api.Proof{}, e
	}
	sources, _ := Sources(w, p.Nodes)
	taken := map[int]bool{}
	for _, source := range by {
		if _, rests := slices.BinarySearch(sources, source); rests {
			return api.Proof{}, api.ErrOpen
		}
		taken[source] = true
	}
	if e := checkMarks(cases.Without(w, by), p.A, p.B); e != api.OK {
		return api.Proof{}, e
	}
	p.Nodes = moved(w, p.Nodes, taken)
	return p, api.OK
}

// moved returns nodes that rest on none of the sources that are taken from a world, as they are without these.
func moved(w api.World, l []api.Node, taken map[int]bool) []api.Node {
	questions, _ := places(w.Questions, func(q api.Question) bool { return taken[q.By] })
	claims, left := places(w.Claims, func(c api.Claim) bool { return taken[c.By] })
	return renumbered(l,
		func(question int) int { return questions[question] },
		func(claim int) int {
			if claim < len(claims) {
				return claims[claim]
			}
			return claim - len(claims) + left // that of a choice, all claims of which are left
		})
}

// places returns the index that each element has when others are gone, and how many are left.
func places[T any](l []T, gone func(T) bool) (at []int, left int) {
	for _, x := range l {
		at = append(at, left)
		if !gone(x) {
			left++
		}
	}
	return at, left
}

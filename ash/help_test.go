package ash_test

import (
	"cmp"
	"math"
	"math/rand/v2"
	"slices"

	"gyttja/api"
)

// extremes are numbers at and beyond all limits.
var extremes = []int{math.MinInt, math.MinInt + 1, -1, 0, 1, 2, 3, 9, 10, 60, 61, 64, 65, 2048, 2049, 10000, 10001, 99999, 100000, math.MaxInt - 1, math.MaxInt}

func dice(seed uint64) *rand.Rand { return rand.New(rand.NewPCG(seed, 4)) }

func of(falls ...[]int) api.Case { return api.Case{Falls: falls} }

func same(a, b int) api.Tie { return api.Tie{A: a, B: b, Same: true} }

func not(a, b int) api.Tie { return api.Tie{A: a, B: b} }

func grain(lo, hi int) [3]api.Band {
	return [3]api.Band{{Lo: lo, Hi: hi}, {Lo: lo, Hi: hi}, {Lo: lo, Hi: hi}}
}

// marked has ashes with the Ids 1, 2, .. at marks, with grains that are all alike.
func marked(marks ...int) []api.Ash {
	var l []api.Ash
	for i, mark := range marks {
		l = append(l, api.Ash{Id: i + 1, Mark: mark, Grain: grain(10, 20)})
	}
	return l
}

// example has the ashes of the chapter's examples.
func example() []api.Ash { return marked(5, 9, 70, 75) }

// inCores has so many ashes, each of a core of its own.
func inCores(n int) []api.Ash {
	var marks []int
	for i := range n {
		marks = append(marks, 64*(n-i))
	}
	return marked(marks...)
}

// someAshes has few ashes in few cores, with bands that often meet.
func someAshes(d *rand.Rand, most int) []api.Ash {
	var l []api.Ash
	cores := 1 + d.IntN(4)
	marks := d.Perm(4 * cores)
	id := 0
	for i := range d.IntN(most + 1) {
		if i == len(marks) {
			break
		}
		id += 1 + d.IntN(3)
		a := api.Ash{Id: id, Mark: 64*(marks[i]%cores) + 1 + marks[i]/cores}
		for i := range a.Grain {
			lo := d.IntN(3)
			a.Grain[i] = api.Band{Lo: lo, Hi: lo + 1 + d.IntN(4)}
		}
		l = append(l, a)
	}
	return l
}

// someTie is a tie of two of the ashes, of which there are two at least.
func someTie(d *rand.Rand, l []api.Ash) api.Tie {
	two := d.Perm(len(l))[:2]
	slices.Sort(two)
	return api.Tie{A: l[two[0]].Id, B: l[two[1]].Id, Same: d.IntN(3) == 0}
}

func someTies(d *rand.Rand, l []api.Ash, most int) []api.Tie {
	var t []api.Tie
	for range d.IntN(most + 1) {
		if len(l) > 1 {
			t = append(t, someTie(d, l))
		}
	}
	return t
}

// allDeals has all deals of ashes, in order.
func allDeals(l []api.Ash) []api.Case {
	deals := []api.Case{{}}
	for _, a := range l {
		var longer []api.Case
		for _, c := range deals {
			for f := range len(c.Falls) + 1 {
				n := copyOf(c)
				if f == len(c.Falls) {
					n.Falls = append(n.Falls, nil)
				}
				n.Falls[f] = append(n.Falls[f], a.Id)
				longer = append(longer, n)
			}
		}
		deals = longer
	}
	slices.SortFunc(deals, inOrder)
	return deals
}

// growth is the growth string of a case.
func growth(c api.Case) []int {
	var s []int
	for _, id := range slices.Sorted(slices.Values(slices.Concat(c.Falls...))) {
		s = append(s, slices.IndexFunc(c.Falls, func(fall []int) bool { return slices.Contains(fall, id) }))
	}
	return s
}

func inOrder(c, d api.Case) int { return slices.Compare(growth(c), growth(d)) }

// ashOf is the ash with an Id.
func ashOf(l []api.Ash, id int) api.Ash {
	return l[slices.IndexFunc(l, func(a api.Ash) bool { return a.Id == id })]
}

func coreOf(a api.Ash) int { return (a.Mark - 1) / 64 }

// areAlike looks for a value of each band; the bands of the tests that call it end at 30.
func areAlike(l ...api.Ash) bool {
	for i := range 3 {
		found := false
		for value := range 31 {
			if !slices.ContainsFunc(l, func(a api.Ash) bool { return value < a.Grain[i].Lo || a.Grain[i].Hi < value }) {
				found = true
			}
		}
		if !found {
			return false
		}
	}
	return true
}

func together(c api.Case, a, b int) bool {
	return slices.ContainsFunc(c.Falls, func(fall []int) bool { return slices.Contains(fall, a) && slices.Contains(fall, b) })
}

// holds says what the chapter's conditions 1 to 3 say of a deal.
func holds(l []api.Ash, t []api.Tie, c api.Case) bool {
	for _, fall := range c.Falls {
		var ashes []api.Ash
		cores := map[int]bool{}
		for _, id := range fall {
			a := ashOf(l, id)
			ashes = append(ashes, a)
			cores[coreOf(a)] = true
		}
		if len(cores) < len(fall) || !areAlike(ashes...) {
			return false
		}
	}
	return !slices.ContainsFunc(t, func(x api.Tie) bool { return together(c, x.A, x.B) != x.Same })
}

// above says what the chapter says of a fall that is above another one.
func above(l []api.Ash, f, g []int) bool {
	for _, id := range f {
		for _, other := range g {
			if a, b := ashOf(l, id), ashOf(l, other); coreOf(a) == coreOf(b) && a.Mark < b.Mark {
				return true
			}
		}
	}
	return false
}

// hasRound follows which falls are above which, over all falls in between.
func hasRound(l []api.Ash, c api.Case) bool {
	n := len(c.Falls)
	leads := make([][]bool, n)
	for f := range n {
		for g := range n {
			leads[f] = append(leads[f], f != g && above(l, c.Falls[f], c.Falls[g]))
		}
	}
	for by := range n {
		for f := range n {
			for g := range n {
				leads[f][g] = leads[f][g] || leads[f][by] && leads[by][g]
			}
		}
	}
	for f := range n {
		if leads[f][f] {
			return true
		}
	}
	return false
}

func isAllowed(l []api.Ash, t []api.Tie, c api.Case) bool { return holds(l, t, c) && !hasRound(l, c) }

// allowed tries all deals.
func allowed(l []api.Ash, t []api.Tie) []api.Case {
	return slices.DeleteFunc(allDeals(l), func(c api.Case) bool { return !isAllowed(l, t, c) })
}

// pairsIn has the pairs of ashes of which it is asked whether they are in one fall.
func pairsIn(l []api.Ash, is func(a, b int) bool) []api.Pair {
	var pairs []api.Pair
	for i, a := range l {
		for _, b := range l[i+1:] {
			if is(a.Id, b.Id) {
				pairs = append(pairs, api.Pair{I: a.Id, J: b.Id})
			}
		}
	}
	slices.SortFunc(pairs, func(p, q api.Pair) int { return cmp.Or(cmp.Compare(p.I, q.I), cmp.Compare(p.J, q.J)) })
	return pairs
}

func sameCase(c, d api.Case) bool { return slices.EqualFunc(c.Falls, d.Falls, slices.Equal[[]int]) }

func sameCases(l, m []api.Case) bool { return slices.EqualFunc(l, m, sameCase) }

func copyOf(c api.Case) api.Case {
	var falls [][]int
	for _, fall := range c.Falls {
		falls = append(falls, slices.Clone(fall))
	}
	return api.Case{Falls: falls}
}

func hasCase(l []api.Case, c api.Case) bool {
	return slices.ContainsFunc(l, func(d api.Case) bool { return sameCase(c, d) })
}

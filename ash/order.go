package ash

import "gyttja/api"

// set is a set of falls: a bit for each index.
type set uint

func (s set) has(fall int) bool { return s&(1<<fall) != 0 }

// pile tells of falls which of them lie above each other.
type pile struct {
	falls int
	over  [api.MaxAsh]set // of each fall those that are above it
}

// pileOf is the pile of the first ashes of a list, as far as the growth string goes.
func pileOf(l []api.Ash, growth []int) pile {
	p := pile{falls: fallsIn(growth)}
	for i, upper := range growth {
		for j, lower := range growth {
			if upper != lower && coreOf(l[i]) == coreOf(l[j]) && l[i].Mark < l[j].Mark {
				p.over[lower] |= 1 << upper
			}
		}
	}
	return p
}

// order returns all falls, none behind one that it is above, and whether there is such a list.
func (p pile) order() ([]int, bool) {
	var order []int
	var placed set
	for range p.falls {
		next := p.next(placed)
		if next == none {
			return nil, false
		}
		order = append(order, next)
		placed |= 1 << next
	}
	return order, true
}

// next is the first fall that is not placed and has only placed ones above it, none if there is none.
func (p pile) next(placed set) int {
	for fall := range p.falls {
		if !placed.has(fall) && p.over[fall]&^placed == 0 {
			return fall
		}
	}
	return none
}

// stepsTo tells of each fall the fewest steps, from a fall to one that it is above, that lead from it to the goal: at least one, or 0 if there is no way.
func (p pile) stepsTo(goal int) [api.MaxAsh]int {
	var steps [api.MaxAsh]int
	var seen set
	found := p.over[goal]
	for n := 1; found != 0; n++ {
		var above set
		for fall := range p.falls {
			if found.has(fall) {
				steps[fall] = n
				above |= p.over[fall]
			}
		}
		seen |= found
		found = above &^ seen
	}
	return steps
}

// round returns the first one of the rounds with the fewest falls; it is empty if there is no round.
func (p pile) round() []int {
	var round []int
	var steps [api.MaxAsh]int
	for fall := range p.falls {
		to := p.stepsTo(fall)
		if to[fall] > 0 && (len(round) == 0 || to[fall] < steps[round[0]]) {
			round, steps = []int{fall}, to
		}
	}
	if len(round) == 0 {
		return nil
	}
	// A fall with a lesser index than the first one is on no round of so few falls, so the first step that leads on is the right one.
	for left := steps[round[0]] - 1; left > 0; left-- {
		last := round[len(round)-1]
		for fall := range p.falls {
			if p.over[fall].has(last) && steps[fall] == left {
				round = append(round, fall)
				break
			}
		}
	}
	return round
}

// Order returns the falls of a case from above to below.
func Order(l []api.Ash, c api.Case) ([]int, api.Errno) {
	growth, e := open(l, c)
	if e != api.OK {
		return nil, e
	}
	order, is := pileOf(l, growth).order()
	if !is {
		return nil, api.ErrRound
	}
	return order, api.OK
}

// Round returns falls each of which would lie above the next one, and the last one above the first.
func Round(l []api.Ash, c api.Case) ([]int, api.Errno) {
	growth, e := open(l, c)
	if e != api.OK {
		return nil, e
	}
	round := pileOf(l, growth).round()
	if len(round) == 0 {
		return nil, api.ErrNone
	}
	return round, api.OK
}

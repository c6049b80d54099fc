package plan

import (
	"cmp"
	"slices"

	"gyttja/api"
	"gyttja/years"
)

// offer is a piece of a list, with its plan.
type offer struct {
	api.Piece
	plan api.Plan
}

// wish says which of several offers is taken: of those that fit the first one of the least.
type wish struct {
	fits    func(offer) bool
	compare func(x, y offer) int
}

func (w wish) from(l []offer) (api.Plan, api.Errno) {
	l = slices.DeleteFunc(slices.Clone(l), func(x offer) bool { return !w.fits(x) })
	if len(l) == 0 {
		return api.Plan{}, api.ErrNone
	}
	return best(l, w.compare).plan, api.OK
}

func compareWorst(x, y offer) int { return cmp.Compare(x.plan.Worst, y.plan.Worst) }

func compareCost(x, y offer) int { return cmp.Compare(x.Cost, y.Cost) }

// narrow is the wish for the piece that leaves the least.
func narrow() wish {
	return wish{
		fits:    func(offer) bool { return true },
		compare: func(x, y offer) int { return cmp.Or(compareWorst(x, y), compareCost(x, y)) },
	}
}

// cheap is the wish for the cheapest piece that leaves no more than so many years.
func cheap(most int) wish {
	return wish{
		fits:    func(x offer) bool { return x.plan.Worst <= most },
		compare: func(x, y offer) int { return cmp.Or(compareCost(x, y), compareWorst(x, y)) },
	}
}

// offersOf returns pieces with what they leave; the error of the first one that has one.
func (s survey) offersOf(l []api.Piece, q api.Ask) ([]offer, api.Errno) {
	var offers []offer
	for i, p := range l {
		plan, e := s.worst(p, q)
		if e != api.OK {
			return nil, e
		}
		plan.Piece = i
		offers = append(offers, offer{p, plan})
	}
	return offers, api.OK
}

// checkList returns the errors that all functions of a list have first.
func checkList(l []api.Piece, q api.Ask) api.Errno {
	if e := checkPieces(l); e != api.OK {
		return e
	}
	if e := checkAsk(q); e != api.OK {
		return e
	}
	if len(l) == 0 {
		return api.ErrNone
	}
	return api.OK
}

// task is a question, with the offers of one or more pieces.
type task struct {
	survey
	ask    api.Ask
	offers []offer
}

// taskOf returns the errors of all functions that choose from a list.
func taskOf(w api.World, l []api.Piece, q api.Ask) (task, api.Errno) {
	if e := checkList(l, q); e != api.OK {
		return task{}, e
	}
	marks := []int{q.A, q.B}
	for _, p := range l {
		marks = append(marks, p.A, p.B)
	}
	s, e := surveyOf(w, marks...)
	if e != api.OK {
		return task{}, e
	}
	offers, e := s.offersOf(l, q)
	if e != api.OK {
		return task{}, e
	}
	return task{s, q, offers}, api.OK
}

// Best returns the piece that leaves the least in the worst case.
func Best(w api.World, l []api.Piece, q api.Ask) (api.Plan, api.Errno) {
	t, e := taskOf(w, l, q)
	if e != api.OK {
		return api.Plan{}, e
	}
	return narrow().from(t.offers)
}

// CheckPlan reports whether a plan is the best one.
func CheckPlan(w api.World, l []api.Piece, q api.Ask, p api.Plan) api.Errno {
	due, e := Best(w, l, q)
	if e != api.OK {
		return e
	}
	if p != due {
		return api.ErrOutcome
	}
	return api.OK
}

// Cheap returns the cheapest piece that leaves at most so many years.
func Cheap(w api.World, l []api.Piece, q api.Ask, most int) (api.Plan, api.Errno) {
	t, e := taskOf(w, l, q)
	if e != api.OK {
		return api.Plan{}, e
	}
	return cheap(most).from(t.offers)
}

// Idle returns the pieces that never narrow the question.
func Idle(w api.World, l []api.Piece, q api.Ask) ([]int, api.Errno) {
	t, e := taskOf(w, l, q)
	if e != api.OK {
		return nil, e
	}
	var idle []int
	for i, p := range l {
		if t.isIdle(p) {
			idle = append(idle, i)
		}
	}
	return idle, api.OK
}

// isIdle reports whether the years that are asked for are the same behind each possible count.
func (t task) isIdle(p api.Piece) bool {
	before := years.Normal(t.values(t.ask.A, t.ask.B))
	counts, _ := t.counts(p, t.ask)
	for count := range each(counts) {
		if !slices.Equal(years.Normal(t.valuesBehind(p, count, t.ask)), before) {
			return false
		}
	}
	return true
}

// Second returns the best second piece behind a count of the first one.
func Second(w api.World, l []api.Piece, q api.Ask, first, count int) (api.Plan, api.Errno) {
	if e := checkList(l, q); e != api.OK {
		return api.Plan{}, e
	}
	if !within(first, 0, len(l)-1) {
		return api.Plan{}, api.ErrArg
	}
	behind, e := After(w, l[first], count)
	if e != api.OK {
		return api.Plan{}, e
	}
	return Best(behind, l, q)
}

// Two returns the best first piece, if a second one is chosen behind its count.
func Two(w api.World, l []api.Piece, q api.Ask) (api.Plan, api.Errno) {
	t, e := taskOf(w, l, q)
	if e != api.OK {
		return api.Plan{}, e
	}
	for i, p := range l {
		counts, _ := t.counts(p, q)
		plan, e := widest(counts, func(count int) (int, api.Errno) {
			offers, e := t.behind(p, count).offersOf(l, q)
			if e != api.OK {
				return 0, e
			}
			second, _ := narrow().from(offers)
			return second.Worst, api.OK
		})
		if e != api.OK {
			return api.Plan{}, e
		}
		plan.Piece = i
		t.offers[i].plan = plan
	}
	return narrow().from(t.offers)
}

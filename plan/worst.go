package plan

import (
	"cmp"
	"iter"

	"gyttja/api"
	"gyttja/cases"
	"gyttja/years"
)

// each yields the years of runs in normal form, rising.
func each(l []api.Run) iter.Seq[int] {
	return func(yield func(int) bool) {
		for _, r := range l {
			for year := r.Lo; year <= r.Hi; year++ {
				if !yield(year) {
					return
				}
			}
		}
	}
}

// best returns the first one of the least elements of a list that is not empty.
func best[T any](l []T, compare func(x, y T) int) T {
	least := l[0]
	for _, x := range l[1:] {
		if compare(x, least) < 0 {
			least = x
		}
	}
	return least
}

// counts returns the possible counts of a piece. It has the errors of Worst that are told ahead of those of single counts.
func (s survey) counts(p api.Piece, q api.Ask) ([]api.Run, api.Errno) {
	if !s.has(p.A, p.B) {
		return nil, api.ErrMark
	}
	if len(s.leaves) == 0 {
		return nil, api.ErrChronology
	}
	if !s.has(q.A, q.B) {
		return nil, api.ErrMark
	}
	counts := s.outcomes(p)
	n, e := years.Size(counts)
	if e != api.OK {
		return nil, e
	}
	if n > api.MaxOutcomes {
		return nil, api.ErrLong
	}
	return counts, api.OK
}

// widest returns the greatest of the widths behind counts, and the least count that has it; or the error of the first count that has one.
func widest(counts []api.Run, widthBehind func(count int) (int, api.Errno)) (api.Plan, api.Errno) {
	var l []api.Plan
	for count := range each(counts) {
		width, e := widthBehind(count)
		if e != api.OK {
			return api.Plan{}, e
		}
		l = append(l, api.Plan{Worst: width, Outcome: count})
	}
	return best(l, func(x, y api.Plan) int { return cmp.Compare(y.Worst, x.Worst) }), api.OK
}

// worst returns what a piece leaves in the worst case.
func (s survey) worst(p api.Piece, q api.Ask) (api.Plan, api.Errno) {
	counts, e := s.counts(p, q)
	if e != api.OK {
		return api.Plan{}, e
	}
	// Whether there is room for a claim does not depend on what it says.
	room := cases.Check(with(s.World, api.Claim{A: p.A, B: p.B, By: 1}))
	return widest(counts, func(count int) (int, api.Errno) {
		if _, e := Claim(p, count, 1); e != api.OK {
			return 0, api.ErrOutcome
		}
		if room != api.OK {
			return 0, room
		}
		return years.Size(s.valuesBehind(p, count, q))
	})
}

// Worst returns what a piece leaves in the worst case.
func Worst(w api.World, p api.Piece, q api.Ask) (api.Plan, api.Errno) {
	t, e := taskOf(w, []api.Piece{p}, q)
	if e != api.OK {
		return api.Plan{}, e
	}
	return t.offers[0].plan, api.OK
}

// Sure returns a count at which a question is left with the most years, and two chronologies that show its ends.
func Sure(w api.World, p api.Piece, q api.Ask) (count int, low, high []api.Dated, e api.Errno) {
	worst, e := Worst(w, p, q)
	if e != api.OK {
		return 0, nil, nil, e
	}
	behind, _ := After(w, p, worst.Outcome)
	least, greatest, _ := cases.Bounds(behind, q.A, q.B)
	_, low, _ = cases.Attain(behind, q.A, q.B, least)
	_, high, _ = cases.Attain(behind, q.A, q.B, greatest)
	return worst.Outcome, low, high, api.OK
}

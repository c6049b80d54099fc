package lay

import (
	"slices"

	"gyttja/api"
)

// mostYears is how many years a join has at most.
const mostYears = 2 * api.MaxPiece

// moments are numbers of years, from 0 to mostYears at least: a bit for each.
type moments uint64

const always = ^moments(0)

// moment has a number of years that may be out of range: then there is none.
func moment(years int) moments {
	if years < 0 {
		return 0
	}
	return 1 << years
}

func (m moments) has(years int) bool { return m&moment(years) != 0 }

func alwaysIf(yes bool) moments {
	if yes {
		return always
	}
	return 0
}

// search returns the first join that uses threads only when they may be used: behind numbers of years.
func (w web) search(when func(api.Thread) moments) (api.Join, api.Errno) {
	// Behind these numbers of years the way from a knot leads to an end.
	leads := make([]moments, len(w.Knots))
	good := func(t api.Thread) moments { return when(t) & (leads[t.To] >> 1) }
	for at := range slices.Backward(w.Knots) {
		leads[at] = alwaysIf(w.isLast(at))
		for t := range w.from(at) {
			leads[at] |= good(t)
		}
	}
	return w.firstJoin(func(above int, t api.Thread) bool { return good(t).has(above) })
}

// Best is the first join of the fewest edits.
func Best(w api.Weave) (api.Join, api.Errno) {
	o, e := open(w)
	if e != api.OK {
		return api.Join{}, e
	}
	fewest := api.MaxEdits
	for at, k := range o.Knots {
		if o.isLast(at) {
			fewest = min(fewest, k.Edits)
		}
	}
	return o.search(func(t api.Thread) moments {
		return alwaysIf(!o.isLast(t.To) || o.Knots[t.To].Edits == fewest)
	})
}

// Avoid returns a join without a pair.
func Avoid(w api.Weave, p api.Pair) (api.Join, api.Errno) {
	o, e := open(w)
	if e != api.OK {
		return api.Join{}, e
	}
	return o.search(func(t api.Thread) moments {
		for q := range o.pairs(t) {
			if q == p {
				return 0
			}
		}
		return always
	})
}

// With returns a join with an offset.
func With(w api.Weave, o api.Offset) (api.Join, api.Errno) {
	g, e := open(w)
	if e != api.OK {
		return api.Join{}, e
	}
	for _, year := range []int{o.XEnd, o.YTop, o.YEnd} {
		if !within(year, -mostYears, mostYears) {
			return api.Join{}, api.ErrNone
		}
	}
	above := -min(0, o.YTop) // years above X's first layer
	return g.search(func(t api.Thread) moments {
		from, to := g.Knots[t.From], g.Knots[t.To]
		when := always
		if from.I == 0 && to.I > 0 {
			when &= moment(above)
		}
		if from.J == 0 && to.J > 0 {
			when &= moment(above + o.YTop)
		}
		if from.I < g.n && to.I == g.n {
			when &= moment(above + o.XEnd)
		}
		if from.J < g.m && to.J == g.m {
			when &= moment(above + o.YEnd)
		}
		return when
	})
}

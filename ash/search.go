package ash

import (
	"iter"
	"slices"

	"gyttja/api"
)

// dealer deals ashes to falls. Its deals are growth strings.
type dealer struct {
	ashes []api.Ash
	// Of an ash and each one ahead of it: they are in no fall together, or are in one. Bands that meet two by two have a value in common, so it is enough to look at two ashes at a time.
	apart, joined [api.MaxAsh][api.MaxAsh]bool
	anyOrder      bool // rounds do not matter
}

// dealerOf returns the dealer of the allowed cases, or the error that all functions of ashes and ties have.
func dealerOf(l []api.Ash, t []api.Tie) (dealer, api.Errno) {
	if e := CheckTies(l, t); e != api.OK {
		return dealer{}, e
	}
	d := dealer{ashes: l}
	for i, a := range l {
		for j, b := range l[:i] {
			d.apart[i][j] = coreOf(a) == coreOf(b) || !Meets(a, b)
		}
	}
	for _, tie := range t {
		a, b := indexOf(l, tie.A), indexOf(l, tie.B)
		if tie.Same {
			d.joined[b][a] = true
		} else {
			d.apart[b][a] = true
		}
	}
	return d, api.OK
}

// fits reports whether the last ash of the beginning of a growth string fits all that are ahead of it, whatever the order of falls is.
func (d dealer) fits(growth []int) bool {
	last := len(growth) - 1
	for i, fall := range growth[:last] {
		together := fall == growth[last]
		if together && d.apart[last][i] || !together && d.joined[last][i] {
			return false
		}
	}
	return true
}

// allows reports whether the beginning of a growth string is allowed, if it was without its last ash.
func (d dealer) allows(growth []int) bool {
	if len(growth) == 0 {
		return true
	}
	if !d.fits(growth) {
		return false
	}
	if d.anyOrder {
		return true
	}
	_, is := pileOf(d.ashes, growth).order()
	return is
}

// deals ranges over the deals that are not ahead of from, in order; over all, if from is empty. A deal is changed when the next one is asked for.
func (d dealer) deals(from []int) iter.Seq[[]int] {
	return func(yield func([]int) bool) {
		var growth []int
		start := from
	search:
		for {
			switch {
			case !d.allows(growth):
			case len(growth) < len(start):
				growth = append(growth, start[len(growth)])
				continue
			case len(growth) < len(d.ashes):
				growth = append(growth, 0)
				continue
			case !yield(growth):
				break search
			}
			start = nil // all that follows is behind it
			growth = raised(growth)
			if len(growth) == 0 {
				break search
			}
		}
	}
}

// raised makes of the beginning of growth strings the least one behind all that begin so; it is empty if there is none.
func raised(growth []int) []int {
	for last := len(growth) - 1; last >= 0; last-- {
		if growth[last] < fallsIn(growth[:last]) {
			growth[last]++
			return growth[:last+1]
		}
	}
	return nil
}

// CheckCase reports whether a case is allowed.
func CheckCase(l []api.Ash, t []api.Tie, c api.Case) api.Errno {
	d, growth, e := dealt(l, t, c)
	if e != api.OK {
		return e
	}
	for n := range growth {
		if !d.fits(growth[:n+1]) {
			return api.ErrCase
		}
	}
	_, e = Order(l, c)
	return e
}

// dealt returns the dealer of the allowed cases, and the growth string of a case.
func dealt(l []api.Ash, t []api.Tie, c api.Case) (dealer, []int, api.Errno) {
	d, e := dealerOf(l, t)
	if e != api.OK {
		return dealer{}, nil, e
	}
	growth, e := open(l, c)
	return d, growth, e
}

// Cases returns all cases, in order.
func Cases(l []api.Ash, t []api.Tie) ([]api.Case, api.Errno) {
	d, e := dealerOf(l, t)
	if e != api.OK {
		return nil, e
	}
	var cases []api.Case
	for growth := range d.deals(nil) {
		if len(cases) == api.MaxCases {
			return nil, api.ErrLong
		}
		cases = append(cases, caseOf(l, growth))
	}
	return cases, api.OK
}

// Count is the number of cases.
func Count(l []api.Ash, t []api.Tie) (int, api.Errno) {
	d, e := dealerOf(l, t)
	if e != api.OK {
		return 0, e
	}
	n := 0
	for range d.deals(nil) {
		n++
	}
	return n, api.OK
}

// First is the first case.
func First(l []api.Ash, t []api.Tie) (api.Case, api.Errno) {
	d, e := dealerOf(l, t)
	if e != api.OK {
		return api.Case{}, e
	}
	for growth := range d.deals(nil) {
		return caseOf(l, growth), api.OK
	}
	return api.Case{}, api.ErrNone
}

// Next is the case behind a case.
func Next(l []api.Ash, t []api.Tie, c api.Case) (api.Case, api.Errno) {
	d, from, e := dealt(l, t, c)
	if e != api.OK {
		return api.Case{}, e
	}
	for growth := range d.deals(from) {
		if !slices.Equal(growth, from) {
			return caseOf(l, growth), api.OK
		}
	}
	return api.Case{}, api.ErrNone
}

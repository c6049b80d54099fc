package span

import (
	"slices"

	"gyttja/api"
	"gyttja/mark"
	"gyttja/pick"
)

// dating is a closure of which some marks have a year.
type dating struct {
	draft
	years []int
	dated []bool
}

func newDating(d draft) dating {
	return dating{d, make([]int, len(d.Marks)), make([]bool, len(d.Marks))}
}

func (d dating) set(i, year int) { d.years[i], d.dated[i] = year, true }

// room returns the years that the dated marks of its part leave to the mark at i; free, if there are no such marks.
func (d dating) room(i int) (lo, hi int, free bool) {
	lo, hi, free = -api.Far, api.Far, true
	for j := range len(d.Marks) {
		if d.dated[j] && !d.far(i, j) {
			lo = max(lo, d.years[j]-d.Most[i][j])
			hi = min(hi, d.years[j]+d.Most[j][i])
			free = false
		}
	}
	return lo, hi, free
}

// holds reports whether the years of the dated marks break no bound.
func (d dating) holds() bool {
	for i := range len(d.Marks) {
		lo, hi, _ := d.room(i)
		if d.dated[i] && !within(d.years[i], lo, hi) {
			return false
		}
	}
	return true
}

// fill dates all other marks, one after the other: years that break no bound leave room to each further mark.
func (d dating) fill(picks []int) []api.Dated {
	taken := 0
	list := make([]api.Dated, 0, len(d.Marks))
	for i, mark := range d.Marks {
		if !d.dated[i] {
			lo, hi, free := d.room(i)
			if free {
				d.set(i, 0)
			} else {
				d.set(i, lo+pick.Index(picks, taken, hi-lo+1))
				taken++
			}
		}
		list = append(list, api.Dated{Mark: mark, Year: d.years[i]})
	}
	return list
}

// Chronology returns a chronology that numbers choose.
func Chronology(l []api.Claim, picks []int) ([]api.Dated, api.Errno) {
	if e := Check(l); e != api.OK {
		return nil, e
	}
	n, ok := closure(graphOf(l, everyClaim))
	if !ok {
		return nil, api.ErrChronology
	}
	return newDating(n).fill(picks), api.OK
}

// CheckChronology reports whether years are a chronology.
func CheckChronology(l []api.Claim, d []api.Dated) api.Errno {
	if e := Check(l); e != api.OK {
		return e
	}
	marks := mark.OfClaims(l)
	if len(d) != len(marks) {
		return api.ErrMark
	}
	for i, x := range d {
		if x.Mark != marks[i] {
			return api.ErrMark
		}
	}
	for _, x := range d {
		if !within(x.Year, -api.Far, api.Far) || x.Mark == 0 && x.Year != 0 {
			return api.ErrYear
		}
	}
	for _, c := range l {
		if !within(d[place(marks, c.B)].Year-d[place(marks, c.A)].Year, c.Lo, c.Hi) {
			return api.ErrYear
		}
	}
	return api.OK
}

// Attain returns a chronology with a given number of years between two marks.
func Attain(l []api.Claim, a, b, years int) ([]api.Dated, api.Errno) {
	n, e := closeBetween(l, a, b)
	if e != api.OK {
		return nil, e
	}
	if n.far(n.a, n.b) {
		return nil, api.ErrFar
	}
	if !within(years, -n.Most[n.b][n.a], n.Most[n.a][n.b]) {
		return nil, api.ErrYear
	}
	d := newDating(n.draft)
	d.set(n.a, 0)
	d.set(n.b, years)
	list := d.fill(nil)
	d.beginAt0(n.a, list)
	return list, api.OK
}

// beginAt0 moves the years of the part of the mark at i so that its first mark has the year 0, as the datum must.
func (d dating) beginAt0(i int, list []api.Dated) {
	first := slices.IndexFunc(d.Most[i], func(most int) bool { return most != api.Far })
	year := list[first].Year
	for j := range len(list) {
		if !d.far(i, j) {
			list[j].Year -= year
		}
	}
}

// Extend returns a chronology that has the years of some marks.
func Extend(l []api.Claim, fixed []api.Dated) ([]api.Dated, api.Errno) {
	if e := Check(l); e != api.OK {
		return nil, e
	}
	g := graphOf(l, everyClaim)
	last := none
	for _, x := range fixed {
		if x.Mark <= last || place(g.marks, x.Mark) == none {
			return nil, api.ErrMark
		}
		last = x.Mark
	}
	n, ok := closure(g)
	if !ok {
		return nil, api.ErrChronology
	}
	d := newDating(n)
	if !d.fix(fixed) || !d.holds() {
		return nil, api.ErrYear
	}
	return d.fill(nil), api.OK
}

// fix dates marks, and the datum, unless a year is one that may not be handed in.
func (d dating) fix(fixed []api.Dated) bool {
	if datum := place(d.Marks, 0); datum != none {
		d.set(datum, 0)
	}
	for _, x := range fixed {
		if !within(x.Year, -api.MaxReach, api.MaxReach) || x.Mark == 0 && x.Year != 0 {
			return false
		}
		d.set(place(d.Marks, x.Mark), x.Year)
	}
	return true
}

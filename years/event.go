package years

import (
	"gyttja/api"
	"gyttja/cases"
	"gyttja/event"
)

// CheckEvent reports whether an event is valid.
func CheckEvent(v api.Event) api.Errno {
	if !event.IsValid(v) {
		return api.ErrEvent
	}
	return api.OK
}

// When returns the years in which an event may lie, counted from a mark.
func When(w api.World, v api.Event, from int) ([]api.Run, api.Errno) {
	values, e := valuesOf(w, v, from)
	return Spread(values, v.Lo, v.Hi), e
}

// valuesOf returns the years in which the mark of an event may lie, counted from a mark.
func valuesOf(w api.World, v api.Event, from int) ([]api.Run, api.Errno) {
	if e := CheckEvent(v); e != api.OK {
		return nil, e
	}
	return cases.Values(w, from, v.Mark)
}

// Apart returns by how many years the second event may lie below the first one.
func Apart(w api.World, v, u api.Event) ([]api.Run, api.Errno) {
	if e := CheckEvent(v); e != api.OK {
		return nil, e
	}
	values, e := valuesOf(w, u, v.Mark)
	return Spread(values, u.Lo-v.Hi, u.Hi-v.Lo), e
}

// Which tells which of two events may be older.
func Which(w api.World, v, u api.Event) (api.Order, api.Errno) {
	apart, e := Apart(w, v, u)
	if e != api.OK {
		return api.Order{}, e
	}
	return api.Order{
		Older:   apart[0].Lo < 0,
		Same:    Has(apart, 0),
		Younger: apart[len(apart)-1].Hi > 0,
	}, api.OK
}

// Attain returns a chronology in which an event lies in a year.
func Attain(w api.World, v api.Event, from, year int) ([]int, []api.Dated, api.Errno) {
	values, e := valuesOf(w, v, from)
	if e != api.OK {
		return nil, nil, e
	}
	if !within(year, -api.Far, api.Far) {
		return nil, nil, api.ErrNone
	}
	left := Common(values, []api.Run{{Lo: year - v.Hi, Hi: year - v.Lo}})
	if len(left) == 0 {
		return nil, nil, api.ErrNone
	}
	// The least number of the event is that of the greatest year of its mark.
	return cases.Attain(w, from, v.Mark, left[len(left)-1].Hi)
}

package years

import (
	"slices"

	"gyttja/api"
	"gyttja/cases"
	"gyttja/mark"
)

// field is a world in which events are counted: with its marks, the index of the one from which years are counted, and its leaves, of which it has one or more.
type field struct {
	api.World
	marks  []int
	from   int
	leaves [][]int
}

// fieldOf returns the errors that tell of the world and its marks.
func fieldOf(w api.World, l []api.Event, from int) (field, api.Errno) {
	if e := cases.Check(w); e != api.OK {
		return field{}, e
	}
	marks := mark.OfWorld(w)
	lacks := func(m int) bool { return !slices.Contains(marks, m) }
	if lacks(from) || slices.ContainsFunc(l, func(v api.Event) bool { return lacks(v.Mark) }) {
		return field{}, api.ErrMark
	}
	leaves, _ := cases.Leaves(w)
	if len(leaves) == 0 {
		return field{}, api.ErrChronology
	}
	return field{w, marks, slices.Index(marks, from), leaves}, api.OK
}

// checkCount returns the errors that tell of events and a period.
func checkCount(l []api.Event, r api.Run) api.Errno {
	if len(l) > api.MaxEvents {
		return api.ErrLong
	}
	for _, v := range l {
		if e := CheckEvent(v); e != api.OK {
			return e
		}
	}
	if r.Lo < -api.MaxYears || r.Lo > r.Hi || r.Hi > api.MaxYears {
		return api.ErrRuns
	}
	return api.OK
}

// optionsOf returns the stands that events may take, event by event: within a period, and then out of it.
func (f field) optionsOf(l []api.Event, r api.Run) [][]stand {
	period := []api.Run{r}
	others := Less([]api.Run{{Lo: -api.Far, Hi: api.Far}}, period)
	options := make([][]stand, len(l))
	for i, v := range l {
		at := slices.Index(f.marks, v.Mark)
		// A mark lies its event's number of years above the event.
		for _, run := range Spread(period, -v.Hi, -v.Lo) {
			options[i] = append(options[i], stand{run, at, true})
		}
		for _, run := range Spread(others, -v.Hi, -v.Lo) {
			options[i] = append(options[i], stand{run, at, false})
		}
	}
	return options
}

// Count returns the least and the greatest number of events within a run of years.
func Count(w api.World, l []api.Event, from int, r api.Run) (least, most int, e api.Errno) {
	if e := checkCount(l, r); e != api.OK {
		return 0, 0, e
	}
	f, e := fieldOf(w, l, from)
	if e != api.OK {
		return 0, 0, e
	}
	options := f.optionsOf(l, r)
	least = len(l)
search:
	for _, choices := range f.leaves {
		for stands := range f.scene(choices).ways(options) {
			n := inside(stands)
			least, most = min(least, n), max(most, n)
			if least == 0 && most == len(l) {
				break search
			}
		}
	}
	return least, most, api.OK
}

// Within returns a chronology in which exactly some events lie within a run of years.
func Within(w api.World, l []api.Event, from int, r api.Run, in []bool) ([]int, []api.Dated, api.Errno) {
	if e := checkCount(l, r); e != api.OK {
		return nil, nil, e
	}
	if len(in) != len(l) {
		return nil, nil, api.ErrArg
	}
	f, e := fieldOf(w, l, from)
	if e != api.OK {
		return nil, nil, e
	}
	options := f.optionsOf(l, r)
	for i := range options {
		options[i] = slices.DeleteFunc(options[i], func(x stand) bool { return x.in != in[i] })
	}
	var found []int
	var d []api.Dated
	e = api.ErrNone
search:
	for _, choices := range f.leaves {
		s := f.scene(choices)
		for stands := range s.ways(options) {
			found, d, e = choices, s.dated(stands), api.OK
			break search
		}
	}
	return found, d, e
}

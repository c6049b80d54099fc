package years_test

import (
	"maps"
	"math"
	"math/bits"
	"slices"
	"testing"

	"gyttja/api"
	"gyttja/cases"
	"gyttja/years"
)

// inOf has a bool for each of n events, by the bits of a number.
func inOf(set uint, n int) []bool {
	in := make([]bool, n)
	for i := range in {
		in[i] = set>>i&1 == 1
	}
	return in
}

// may reports whether an event can lie within a period, or out of it, if its mark lies in a year.
func may(v api.Event, year int, r api.Run, in bool) bool {
	for n := v.Lo; n <= v.Hi; n++ {
		if in == (r.Lo <= year+n && year+n <= r.Hi) {
			return true
		}
	}
	return false
}

// shows reports whether a chronology is one of a world in which exactly some events can lie within a period.
func shows(w api.World, choices []int, d []api.Dated, l []api.Event, from int, r api.Run, in []bool) bool {
	of := yearsOf(d)
	for i, v := range l {
		if !may(v, of[v.Mark]-of[from], r, in[i]) {
			return false
		}
	}
	return isChronology(w, choices, d)
}

// setsWithin are the sets of events, as bits, that can lie within a period alone: those of which Within shows a chronology.
func setsWithin(t *testing.T, w api.World, l []api.Event, from int, r api.Run) map[uint]bool {
	sets := map[uint]bool{}
	for set := range uint(1) << len(l) {
		in := inOf(set, len(l))
		choices, d, e := years.Within(w, l, from, r, in)
		switch {
		case e == api.OK && shows(w, choices, d, l, from, r, in):
			sets[set] = true
		case e != api.ErrNone || len(choices) > 0 || len(d) > 0:
			t.Fatal(w, l, from, r, in, choices, d, e)
		}
	}
	return sets
}

// extent is the least and the greatest number of events of sets.
func extent(sets map[uint]bool) (least, most int) {
	least = math.MaxInt
	for set := range sets {
		n := bits.OnesCount(set)
		least, most = min(least, n), max(most, n)
	}
	return least, most
}

// P6.1, P6.5: counts of events of some worlds, and which of them can lie within alone.
func TestCountAndWithin(t *testing.T) {
	w, v, u := example()
	few := []api.Event{v, u}
	at := func(mark int, numbers ...int) []api.Event {
		var l []api.Event
		for _, n := range numbers {
			l = append(l, event(mark, n, n))
		}
		return l
	}
	wide := slices.Concat(at(8, -100000, 100000), at(3, -100000), at(4, 100000))
	for name, c := range map[string]struct {
		w    api.World
		l    []api.Event
		from int
		r    api.Run
		sets []uint // of events, as bits
	}{
		"the example":                     {w, few, 0, api.Run{Lo: 14, Hi: 15}, []uint{0, 2, 3}},
		"all":                             {w, few, 0, api.Run{Lo: 10, Hi: 20}, []uint{3}},
		"none":                            {w, few, 0, api.Run{Lo: 18, Hi: 20}, []uint{0}},
		"none, above":                     {w, few, 0, api.Run{Lo: -20, Hi: 13}, []uint{0}},
		"the last year":                   {w, few, 0, api.Run{Lo: 17, Hi: 17}, []uint{0, 1}},
		"the first year":                  {w, few, 0, api.Run{Lo: 13, Hi: 14}, []uint{0, 2, 3}},
		"years between":                   {w, few, 0, api.Run{Lo: 15, Hi: 16}, []uint{0, 1, 2, 3}},
		"from the mark of one":            {w, few, 1, api.Run{Lo: 9, Hi: 9}, []uint{2, 3}},
		"from the mark of the other":      {w, few, 2, api.Run{Lo: -1, Hi: -1}, []uint{2, 3}},
		"no events":                       {w, nil, 0, api.Run{Lo: 1, Hi: 2}, []uint{0}},
		"an event twice":                  {w, []api.Event{v, v}, 0, api.Run{Lo: 17, Hi: 100000}, []uint{0, 1, 2, 3}},
		"an event of one year, twice":     {w, []api.Event{u, u}, 0, api.Run{Lo: 16, Hi: 100000}, []uint{0, 3}},
		"one after the other":             {w, at(1, 0, 1, 2, 3), 0, api.Run{Lo: 7, Hi: 8}, []uint{3, 6, 12}},
		"one mark, far apart":             {w, at(1, -90000, 0, 90000), 0, api.Run{Lo: -100000, Hi: 6}, []uint{1, 3}},
		"as far apart as may be":          {w, at(1, -100000, 100000, 0), 0, api.Run{Lo: -100000, Hi: 100000}, []uint{5}},
		"an event as wide as may be":      {w, []api.Event{event(1, -100000, 100000)}, 0, api.Run{Lo: -100000, Hi: 100000}, []uint{0, 1}},
		"an event as wide as the period":  {w, []api.Event{event(0, 0, 3)}, 0, api.Run{Lo: 0, Hi: 3}, []uint{1}},
		"an event that is wider":          {w, []api.Event{event(0, 0, 3)}, 0, api.Run{Lo: 1, Hi: 2}, []uint{0, 1}},
		"wider above":                     {w, []api.Event{event(0, 0, 3)}, 0, api.Run{Lo: 1, Hi: 3}, []uint{0, 1}},
		"wider below":                     {w, []api.Event{event(0, 0, 3)}, 0, api.Run{Lo: 0, Hi: 2}, []uint{0, 1}},
		"about a gap":                     {gapped(), at(1, 0, 3), 0, api.Run{Lo: 13, Hi: 19}, []uint{0, 2}},
		"in a gap":                        {gapped(), at(1, 0, 1), 0, api.Run{Lo: 14, Hi: 19}, []uint{0}},
		"one or the other":                {gapped(), at(1, 0, 9), 0, api.Run{Lo: 20, Hi: 21}, []uint{0, 1, 2}},
		"one or the other, and not none":  {gapped(), at(1, 0, 9), 0, api.Run{Lo: 19, Hi: 21}, []uint{1, 2}},
		"the mark from which years count": {loose(), at(8, 0), 8, api.Run{}, []uint{1}},
		"a loose mark":                    {loose(), slices.Concat(at(8, 0), at(5, 0)), 6, api.Run{Lo: -1, Hi: 1}, []uint{0, 1, 2, 3}},
		"marks that some leaves tie":      {loose(), slices.Concat(at(3, 0), at(4, 0), at(5, 0)), 5, api.Run{Lo: 0, Hi: 4}, []uint{4, 5, 6, 7}},
		"a datum that some leaves tie":    {loose(), slices.Concat(at(5, 0), at(6, 0), at(8, 0)), 0, api.Run{Lo: 0, Hi: 3}, []uint{0, 1, 2, 3, 4, 5, 6, 7}},
		"an event at a loose datum":       {loose(), slices.Concat(at(0, 0), at(8, 0)), 8, api.Run{Lo: -90000, Hi: -80000}, []uint{0, 1}},
		"one that claims would tie":       {loose(), slices.Concat(at(3, 0), at(4, 0)), 5, api.Run{Lo: 50, Hi: 57}, []uint{0, 1, 2, 3}},
		"as far below as may be":          {loose(), wide, 5, api.Run{Lo: 100000, Hi: 100000}, []uint{0, 1, 2, 4, 5, 6, 8, 9, 10}},
		"as far above as may be":          {loose(), wide, 5, api.Run{Lo: -100000, Hi: -100000}, []uint{0, 1, 2, 4, 5, 6, 8, 9, 10}},
		"a period as long as may be":      {loose(), slices.Concat(at(8, 0), at(3, 0), at(0, 5)), 5, api.Run{Lo: -100000, Hi: 100000}, []uint{0, 1, 2, 3, 4, 5, 6, 7}},
	} {
		want := map[uint]bool{}
		for _, set := range c.sets {
			want[set] = true
		}
		if sets := setsWithin(t, c.w, c.l, c.from, c.r); !maps.Equal(sets, want) {
			t.Error("Within", name, sets)
		}
		wantLeast, wantMost := extent(want)
		if least, most, e := years.Count(c.w, c.l, c.from, c.r); least != wantLeast || most != wantMost || e != api.OK {
			t.Error("Count", name, least, most, e)
		}
	}
}

// P6.1: the chapter's example of Within.
func TestWithinExample(t *testing.T) {
	w, v, u := example()
	choices, d, e := years.Within(w, []api.Event{v, u}, 0, api.Run{Lo: 14, Hi: 15}, []bool{false, true})
	if len(choices) > 0 || !slices.Equal(d, []api.Dated{{Mark: 0}, {Mark: 1, Year: 6}, {Mark: 2, Year: 16}}) || e != api.OK {
		t.Error(choices, d, e)
	}
}

// P1, R1, R2: the errors, each ahead of those behind it.
func TestCountErrors(t *testing.T) {
	w, v, u := example()
	few, long, wrong := []api.Event{v, u}, make([]api.Event, 9), []api.Event{v, {}}
	period, turned := api.Run{Lo: 14, Hi: 15}, api.Run{Lo: 1}
	two, three := []bool{true, false}, []bool{true, false, true}
	nowhere := []api.Event{v, event(3, 0, 0)}
	type call struct {
		name string
		w    api.World
		l    []api.Event
		from int
		r    api.Run
		in   []bool
		e    api.Errno // of Within; Count has no list of bools, and otherwise the same
	}
	calls := []call{
		{"too many events", badWorlds()[api.ErrClaim], long, 3, turned, three, api.ErrLong},
		{"an event that is not valid", badWorlds()[api.ErrClaim], wrong, 3, turned, three, api.ErrEvent},
		{"a period that is turned round", badWorlds()[api.ErrClaim], few, 3, turned, three, api.ErrRuns},
		{"a period from too far above", w, few, 0, api.Run{Lo: -100001}, two, api.ErrRuns},
		{"a period to too far below", w, few, 0, api.Run{Hi: 100001}, two, api.ErrRuns},
		{"a period too far above", w, few, 0, api.Run{Lo: -100001, Hi: -100001}, two, api.ErrRuns},
		{"a period too far below", w, few, 0, api.Run{Lo: 100001, Hi: 100001}, two, api.ErrRuns},
		{"a period of all", w, few, 0, api.Run{Lo: math.MinInt, Hi: math.MaxInt}, two, api.ErrRuns},
		{"from no mark", w, few, 3, period, two, api.ErrMark},
		{"from a number below all marks", w, few, -1, period, two, api.ErrMark},
		{"from the greatest number", w, few, math.MaxInt, period, two, api.ErrMark},
		{"from the least number", w, few, math.MinInt, period, two, api.ErrMark},
		{"an event at no mark", w, nowhere, 0, period, two, api.ErrMark},
		{"from no mark, no chronology", broken(), few, 3, period, two, api.ErrMark},
		{"an event at no mark, no chronology", broken(), nowhere, 0, period, two, api.ErrMark},
		{"no events, no mark", api.World{}, nil, 0, period, nil, api.ErrMark},
		{"no chronology", broken(), few, 0, period, two, api.ErrChronology},
		{"no events, no chronology", broken(), nil, 0, period, nil, api.ErrChronology},
	}
	for e, bad := range badWorlds() {
		calls = append(calls, call{"a world that is not valid", bad, nowhere, 3, period, two, e})
	}
	for _, bad := range badEvents() {
		calls = append(calls, call{"an event that is not valid", w, []api.Event{v, bad}, 0, period, two, api.ErrEvent})
	}
	for _, c := range calls {
		if least, most, e := years.Count(c.w, c.l, c.from, c.r); least != 0 || most != 0 || e != c.e {
			t.Error("Count", c.name, least, most, e)
		}
		if choices, d, e := years.Within(c.w, c.l, c.from, c.r, c.in); len(choices) > 0 || len(d) > 0 || e != c.e {
			t.Error("Within", c.name, choices, d, e)
		}
	}
	for _, in := range [][]bool{nil, {}, {true}, three} {
		for _, x := range []api.World{w, broken(), badWorlds()[api.ErrClaim]} {
			if choices, d, e := years.Within(x, few, 3, period, in); len(choices) > 0 || len(d) > 0 || e != api.ErrArg {
				t.Error(in, choices, d, e)
			}
		}
	}
	if choices, d, e := years.Within(w, few, 0, api.Run{Lo: 10, Hi: 20}, two); len(choices) > 0 || len(d) > 0 || e != api.ErrNone {
		t.Error(choices, d, e)
	}
	if choices, d, e := years.Within(w, nil, 0, period, two); len(choices) > 0 || len(d) > 0 || e != api.ErrArg {
		t.Error(choices, d, e)
	}
}

// setsOf are the sets of events, as bits, that the oracle finds: it tries all years, and all numbers.
func setsOf(w api.World, l []api.Event, from int, r api.Run) map[uint]bool {
	sets := map[uint]bool{}
	eachChronology(w, from, func(of map[int]int) {
		found := []uint{0}
		for i, v := range l {
			var more []uint
			for _, set := range found {
				if may(v, of[v.Mark], r, true) {
					more = append(more, set|1<<i)
				}
				if may(v, of[v.Mark], r, false) {
					more = append(more, set)
				}
			}
			found = more
		}
		for _, set := range found {
			sets[set] = true
		}
	})
	return sets
}

// P6.5, P2: Count has the least and the greatest number of events within, of all chronologies and numbers that the oracle tries; Within has exactly its sets.
func TestCountIsExact(t *testing.T) {
	d := dice(31)
	tried := map[[2]int]int{}
	for range 400 {
		w := someWorld(d)
		from := someOf(d, marksOf(w))
		l := someEvents(d, w, d.IntN(5))
		lo := d.IntN(9) - 4
		r := api.Run{Lo: lo, Hi: min(4, lo+d.IntN(4))}
		want := setsOf(w, l, from, r)
		wantLeast, wantMost := extent(want)
		if least, most, e := years.Count(w, l, from, r); least != wantLeast || most != wantMost || e != api.OK {
			t.Fatal(w, l, from, r, least, most, e, wantLeast, wantMost)
		}
		if sets := setsWithin(t, w, l, from, r); !maps.Equal(sets, want) {
			t.Fatal(w, l, from, r, sets, want)
		}
		tried[[2]int{wantLeast, wantMost}]++
	}
	for _, c := range [][2]int{{0, 0}, {0, 1}, {0, 2}, {0, 3}, {0, 4}, {1, 1}, {1, 2}, {1, 3}} {
		if tried[c] < 2 {
			t.Error("too little was tried", c, tried)
		}
	}
}

// P6.5: whatever chronology and numbers are chosen, as many events lie within as Count has, and Within has them.
func TestChosenChronologies(t *testing.T) {
	d := dice(32)
	for range 500 {
		w := someWorld(d)
		_, dated, _ := cases.Chronology(w, []int{d.IntN(99), d.IntN(99), d.IntN(99)})
		of := yearsOf(dated)
		from := someOf(d, marksOf(w))
		l := someEvents(d, w, api.MaxEvents)
		r := api.Run{Lo: d.IntN(7) - 3, Hi: 3 + d.IntN(3)}
		n, in := 0, make([]bool, len(l))
		for i, v := range l {
			year := of[v.Mark] - of[from] + v.Lo + d.IntN(v.Hi-v.Lo+1)
			if in[i] = r.Lo <= year && year <= r.Hi; in[i] {
				n++
			}
		}
		if least, most, e := years.Count(w, l, from, r); n < least || n > most || e != api.OK {
			t.Fatal(w, l, from, r, n, least, most, e)
		}
		if choices, got, e := years.Within(w, l, from, r, in); e != api.OK || !shows(w, choices, got, l, from, r, in) {
			t.Fatal(w, l, from, r, in, choices, got, e)
		}
	}
}

// P6.6: with one more claim, or one choice less, no year comes into When and Apart, and the counts lie no wider.
func TestMoreIsKnown(t *testing.T) {
	d := dice(33)
	tried, less := 0, 0
	for range 1500 {
		w := someWorld(d)
		l := someEvents(d, w, 5)
		from := someOf(d, marksOf(w))
		r := api.Run{Lo: d.IntN(7) - 3, Hi: 3}
		known := copyOf(w)
		if i := d.IntN(len(w.Questions) + 1); i == len(w.Questions) {
			known.Claims = append(known.Claims, someClaim(d, 9))
		} else {
			k := d.IntN(len(w.Questions[i].Choices))
			known.Questions[i].Choices = slices.Delete(known.Questions[i].Choices, k, k+1)
		}
		when, e := years.When(known, l[0], from)
		if e != api.OK {
			continue // there is no chronology, no choice, or a mark less
		}
		apart, e := years.Apart(known, l[0], l[1])
		least, most, f := years.Count(known, l, from, r)
		if e != api.OK || f != api.OK {
			continue // likewise
		}
		tried++
		widerLeast, widerMost, e := years.Count(w, l, from, r)
		if e != api.OK || least < widerLeast || most > widerMost {
			t.Fatal(w, known, l, from, r, least, most, widerLeast, widerMost, e)
		}
		if further := years.Less(when, first(years.When(w, l[0], from))); len(further) > 0 {
			t.Fatal(w, known, l, from, further)
		}
		if further := years.Less(apart, first(years.Apart(w, l[0], l[1]))); len(further) > 0 {
			t.Fatal(w, known, l, further)
		}
		if least > widerLeast || most < widerMost {
			less++
		}
	}
	if tried < 400 || less < 50 {
		t.Error("too little was tried", tried, less)
	}
}

// P1: as many leaves, claims and marks as may be, and as many events, come to an end in due time; the counts are those of the sets that Within has.
func TestLargestCounts(t *testing.T) {
	d := dice(34)
	var w api.World
	apart := func(a, b, by int) api.Claim {
		n := 100*(b-a) + d.IntN(60) - 30
		return claim(a, b, n-50, n+50, by)
	}
	for m := range 63 {
		w.Claims = append(w.Claims, apart(m, m+1, 1))
	}
	for len(w.Claims) < 300 {
		m := d.IntN(60)
		w.Claims = append(w.Claims, apart(m, m+1+d.IntN(3), 1))
	}
	for by, n := range []int{60, 50} {
		q := api.Question{By: by + 2}
		for range n {
			var l []api.Claim
			for range 50 {
				m := d.IntN(60)
				l = append(l, apart(m, m+1+d.IntN(3), by+2))
			}
			q.Choices = append(q.Choices, l)
		}
		w.Questions = append(w.Questions, q)
	}
	var l []api.Event
	for i := range api.MaxEvents {
		l = append(l, event(30+i/2, -20*i, 20*i))
	}
	l[7] = event(20, 0, 0)
	if leaves, e := cases.Leaves(w); len(leaves) != api.MaxLeaves || len(marksOf(w)) != api.MaxNet || e != api.OK {
		t.Fatal(len(leaves), e)
	}
	r := api.Run{Lo: -3, Hi: 1050}
	if least, most, e := years.Count(w, l, 20, r); least != 1 || most != 8 || e != api.OK {
		t.Error(least, most, e)
	}
	in := []bool{true, true, false, true, false, true, true, true}
	if choices, dated, e := years.Within(w, l, 20, r, in); e != api.OK || !shows(w, choices, dated, l, 20, r, in) {
		t.Error(choices, dated, e)
	}
	in[7] = false // the event at the mark from which years are counted
	if choices, dated, e := years.Within(w, l, 20, r, in); len(choices) > 0 || len(dated) > 0 || e != api.ErrNone {
		t.Error(choices, dated, e)
	}
}

package years_test

import (
	"math"
	"slices"
	"testing"

	"gyttja/api"
	"gyttja/cases"
	"gyttja/years"
)

// P6.1: events that are valid, up to the limits, and not beyond.
func TestCheckEvent(t *testing.T) {
	for _, v := range goodEvents() {
		if e := years.CheckEvent(v); e != api.OK {
			t.Error(v, e)
		}
	}
	for _, v := range badEvents() {
		if e := years.CheckEvent(v); e != api.ErrEvent {
			t.Error(v, e)
		}
	}
}

// P6.1: the years of events of some worlds, and those between two events.
func TestWhenAndApart(t *testing.T) {
	w, v, u := example()
	all := runs(-far, far)
	for name, c := range map[string]struct {
		w           api.World
		v, u        api.Event
		from        int
		when, apart []api.Run
		order       api.Order
	}{
		"the example":                    {w, v, u, 0, runs(14, 17), runs(-1, 0), api.Order{Older: true, Same: true}},
		"turned round":                   {w, u, v, 0, runs(14, 16), runs(0, 1), api.Order{Same: true, Younger: true}},
		"from another mark":              {w, v, u, 1, runs(9, 10), runs(-1, 0), api.Order{Older: true, Same: true}},
		"from the event's mark":          {w, v, u, 2, runs(-1, 0), runs(-1, 0), api.Order{Older: true, Same: true}},
		"from below":                     {w, event(0, 3, 4), event(1, -4, -4), 2, runs(-14, -11), runs(-3, 0), api.Order{Older: true, Same: true}},
		"an event with itself":           {w, v, v, 0, runs(14, 17), runs(-1, 1), api.Order{Older: true, Same: true, Younger: true}},
		"one year, with itself":          {w, u, u, 0, runs(14, 16), runs(0, 0), api.Order{Same: true}},
		"two of one mark":                {w, event(1, 0, 2), event(1, 5, 5), 0, runs(5, 9), runs(3, 5), api.Order{Younger: true}},
		"of the datum":                   {w, event(0, 2, 3), event(0, -9, -8), 0, runs(2, 3), runs(-12, -10), api.Order{Older: true}},
		"below it, as far as may be":     {w, event(1, -100000, 100000), event(1, -100000, 100000), 0, runs(-99995, 100007), runs(-200000, 200000), api.Order{Older: true, Same: true, Younger: true}},
		"leaves that lie apart":          {gapped(), event(1, 0, 1), event(0, 0, 3), 0, runs(10, 13, 20, 22), runs(-22, -17, -13, -7), api.Order{Older: true}},
		"leaves that come to touch":      {gapped(), event(1, 0, 7), event(0, 15, 15), 0, runs(10, 28), runs(-13, 5), api.Order{Older: true, Same: true, Younger: true}},
		"all but the same year":          {gapped(), event(1, 0, 0), event(0, 15, 16), 0, runs(10, 12, 20, 21), runs(-6, -4, 3, 6), api.Order{Older: true, Younger: true}},
		"a mark that is not tied in all": {loose(), event(8, -1, 1), event(5, 0, 0), 5, all, all, api.Order{Older: true, Same: true, Younger: true}},
		"two at a mark not tied in all":  {loose(), event(8, 0, 1), event(8, 2, 2), 8, runs(0, 1), runs(1, 2), api.Order{Younger: true}},
		"from a mark not tied in all":    {loose(), event(6, 0, 2), event(5, 0, 0), 0, all, runs(-4, -1), api.Order{Older: true}},
	} {
		if l, e := years.When(c.w, c.v, c.from); !slices.Equal(l, c.when) || e != api.OK {
			t.Error("When", name, l, e)
		}
		if l, e := years.Apart(c.w, c.v, c.u); !slices.Equal(l, c.apart) || e != api.OK {
			t.Error("Apart", name, l, e)
		}
		if o, e := years.Which(c.w, c.v, c.u); o != c.order || e != api.OK {
			t.Error("Which", name, o, e)
		}
	}
}

// P1, R1, R2: an event is looked at first, then the world, its marks, and whether it has a chronology.
func TestEventErrors(t *testing.T) {
	w, v, u := example()
	type call struct {
		w    api.World
		v, u api.Event
		e    api.Errno
	}
	calls := []call{
		{w, event(3, 0, 0), u, api.ErrMark}, {w, u, event(2048, 0, 0), api.ErrMark}, {broken(), event(3, 0, 0), u, api.ErrMark}, {api.World{}, event(0, 0, 0), event(0, 0, 0), api.ErrMark},
		{broken(), v, u, api.ErrChronology}, {broken(), v, v, api.ErrChronology},
	}
	for e, bad := range badWorlds() {
		calls = append(calls, call{bad, v, u, e}, call{bad, event(3, 0, 0), event(3, 0, 0), e})
	}
	for _, bad := range badEvents() {
		calls = append(calls, call{w, bad, u, api.ErrEvent}, call{w, u, bad, api.ErrEvent}, call{broken(), bad, bad, api.ErrEvent}, call{badWorlds()[api.ErrClaim], u, bad, api.ErrEvent})
	}
	for _, c := range calls {
		if l, e := years.Apart(c.w, c.v, c.u); len(l) > 0 || e != c.e {
			t.Error("Apart", c, l, e)
		}
		if o, e := years.Which(c.w, c.v, c.u); o != (api.Order{}) || e != c.e {
			t.Error("Which", c, o, e)
		}
		if years.CheckEvent(c.u) == api.OK {
			if l, e := years.When(c.w, c.v, c.u.Mark); len(l) > 0 || e != c.e {
				t.Error("When", c, l, e)
			}
			for _, year := range []int{16, -far - 1, far + 1, math.MinInt, math.MaxInt} {
				if choices, d, e := years.Attain(c.w, c.v, c.u.Mark, year); len(choices) > 0 || len(d) > 0 || e != c.e {
					t.Error("Attain", c, year, choices, d, e)
				}
			}
		}
	}
	for _, from := range []int{3, -1, 2049, math.MinInt, math.MaxInt} {
		if l, e := years.When(w, v, from); len(l) > 0 || e != api.ErrMark {
			t.Error(from, l, e)
		}
		if choices, d, e := years.Attain(w, v, from, 16); len(choices) > 0 || len(d) > 0 || e != api.ErrMark {
			t.Error(from, choices, d, e)
		}
	}
}

// P6.1, R1: the year of the mark that Attain asks for is that of the event's least number.
func TestAttain(t *testing.T) {
	w, v, u := example()
	for name, c := range map[string]struct {
		w          api.World
		v          api.Event
		from, year int
		markYear   int // counted from the mark from, if e is OK
		e          api.Errno
	}{
		"the example":                  {w, v, 0, 17, 17, api.OK},
		"the least number":             {w, v, 0, 16, 17, api.OK},
		"the first year":               {w, v, 0, 14, 15, api.OK},
		"too old":                      {w, v, 0, 18, 0, api.ErrNone},
		"too young":                    {w, v, 0, 13, 0, api.ErrNone},
		"from another mark":            {w, v, 1, 9, 10, api.OK},
		"from it, too old":             {w, v, 1, 11, 0, api.ErrNone},
		"from its own mark":            {w, v, 2, -1, 0, api.OK},
		"the same year":                {w, v, 2, 0, 0, api.OK},
		"another year":                 {w, v, 2, 1, 0, api.ErrNone},
		"one number":                   {w, u, 0, 15, 6, api.OK},
		"in a gap":                     {gapped(), event(1, 0, 0), 0, 15, 0, api.ErrNone},
		"beside a gap":                 {gapped(), event(1, 0, 3), 0, 15, 12, api.OK},
		"over a gap":                   {gapped(), event(1, 0, 8), 0, 20, 20, api.OK},
		"over a gap, later":            {gapped(), event(1, 1, 8), 0, 20, 12, api.OK},
		"behind all":                   {gapped(), event(1, 1, 8), 0, 29, 21, api.OK},
		"a loose mark":                 {loose(), event(8, -2, 3), 0, 7, 9, api.OK},
		"a loose mark, far":            {loose(), event(8, 3, 3), 0, api.MaxReach, api.MaxReach - 3, api.OK},
		"as far as may be":             {loose(), event(8, 0, 3), 0, api.MaxReach, api.MaxReach, api.OK},
		"as far above":                 {loose(), event(8, 3, 3), 0, -api.MaxReach + 3, -api.MaxReach, api.OK},
		"too far, by the least number": {loose(), event(8, -1, 3), 0, api.MaxReach, 0, api.ErrYear},
		"too far":                      {loose(), event(8, 0, 3), 0, api.MaxReach + 1, 0, api.ErrYear},
		"too far above":                {loose(), event(8, 3, 3), 0, -api.MaxReach + 2, 0, api.ErrYear},
		"farther":                      {loose(), event(8, 0, 3), 0, far, 0, api.ErrYear},
		"farther above":                {loose(), event(8, -3, 0), 0, -far, 0, api.ErrYear},
		"no such year of the mark":     {loose(), event(8, -3, -1), 0, far, 0, api.ErrNone},
		"no such year above":           {loose(), event(8, 1, 3), 0, -far, 0, api.ErrNone},
		"beyond all years":             {loose(), event(8, 1, 3), 0, far + 1, 0, api.ErrNone},
		"beyond all years, above":      {loose(), event(8, -3, -1), 0, -far - 1, 0, api.ErrNone},
		"the greatest number":          {loose(), event(8, -3, 3), 0, math.MaxInt, 0, api.ErrNone},
		"the least number of all":      {loose(), event(8, -3, 3), 0, math.MinInt, 0, api.ErrNone},
	} {
		choices, d, e := years.Attain(c.w, c.v, c.from, c.year)
		if e != c.e {
			t.Error(name, e)
		}
		if e != api.OK {
			if len(choices) > 0 || len(d) > 0 {
				t.Error(name, choices, d)
			}
			continue
		}
		of := yearsOf(d)
		if !isChronology(c.w, choices, d) || of[c.v.Mark]-of[c.from] != c.markYear {
			t.Error(name, choices, d)
		}
		wantChoices, want, _ := cases.Attain(c.w, c.from, c.v.Mark, c.markYear)
		if !slices.Equal(choices, wantChoices) || !slices.Equal(d, want) {
			t.Error(name, choices, d, wantChoices, want)
		}
	}
}

// P6.3, P2: When has exactly the years in which the event lies in some chronology, of all that the oracle tries; Attain shows each.
func TestWhenIsExact(t *testing.T) {
	d := dice(11)
	bounded, free := 0, 0
	for range 400 {
		w := someWorld(d)
		v := someEvents(d, w, 1)[0]
		from := someOf(d, marksOf(w))
		when, e := years.When(w, v, from)
		if e != api.OK || years.CheckRuns(when) != api.OK {
			t.Fatal(w, v, when, e)
		}
		seen := map[int]bool{}
		eachChronology(w, from, func(of map[int]int) {
			for n := v.Lo; n <= v.Hi; n++ {
				seen[of[v.Mark]+n] = true
			}
		})
		reached := reach + 5
		if slices.Equal(when, runs(-far, far)) {
			reached = 6 // farther away the oracle does not try all years of the marks that are tied to the event's
			free++
		} else {
			bounded++
		}
		for year := -reached; year <= reached; year++ {
			if seen[year] != years.Has(when, year) {
				t.Fatal(w, v, from, year, when)
			}
		}
		for _, year := range []int{-400000000, -9, -5, -4, -3, -2, -1, 0, 1, 2, 3, 4, 5, 9, 400000000} {
			choices, l, e := years.Attain(w, v, from, year)
			if !years.Has(when, year) {
				if e != api.ErrNone || len(choices) > 0 || len(l) > 0 {
					t.Fatal(w, v, from, year, choices, l, e)
				}
				continue
			}
			of := yearsOf(l)
			n := year - (of[v.Mark] - of[from])
			if e != api.OK || !isChronology(w, choices, l) || n < v.Lo || n > v.Hi {
				t.Fatal(w, v, from, year, choices, l, e)
			}
			for less := v.Lo; less < n; less++ {
				if first(cases.Has(w, from, v.Mark, year-less)) {
					t.Fatal(w, v, from, year, l, less)
				}
			}
		}
	}
	if bounded < 100 || free < 50 {
		t.Error("too little was tried", bounded, free)
	}
}

// P6.1, P6.4, P2: Apart has exactly the numbers of years between two events in chronologies, of all that the oracle tries; turned round it has their negatives; Which tells the order.
func TestApartIsExact(t *testing.T) {
	d := dice(12)
	bounded := 0
	for range 300 {
		w := someWorld(d)
		l := someEvents(d, w, 2)
		v, u := l[0], l[1]
		apart, e := years.Apart(w, v, u)
		if e != api.OK || years.CheckRuns(apart) != api.OK {
			t.Fatal(w, v, u, apart, e)
		}
		seen := map[int]bool{}
		eachChronology(w, v.Mark, func(of map[int]int) {
			for n := v.Lo; n <= v.Hi; n++ {
				for m := u.Lo; m <= u.Hi; m++ {
					seen[of[u.Mark]+m-n] = true
				}
			}
		})
		reached := 6
		if !slices.Equal(apart, runs(-far, far)) {
			reached = reach + 9
			bounded++
		}
		order := api.Order{}
		for n := -reached; n <= reached; n++ {
			if seen[n] != years.Has(apart, n) {
				t.Fatal(w, v, u, n, apart)
			}
			if seen[n] {
				order = api.Order{Older: order.Older || n < 0, Same: order.Same || n == 0, Younger: order.Younger || n > 0}
			}
		}
		if o, e := years.Which(w, v, u); o != order || e != api.OK {
			t.Fatal(w, v, u, o, order, e)
		}
		var turned []api.Run
		for _, r := range slices.Backward(apart) {
			turned = append(turned, api.Run{Lo: -r.Hi, Hi: -r.Lo})
		}
		if other, e := years.Apart(w, u, v); !slices.Equal(other, turned) || e != api.OK {
			t.Fatal(w, u, v, other, turned, e)
		}
		if o, e := years.Which(w, u, v); o != (api.Order{Older: order.Younger, Same: order.Same, Younger: order.Older}) || e != api.OK {
			t.Fatal(w, u, v, o, order, e)
		}
	}
	if bounded < 100 {
		t.Error("too little was tried", bounded)
	}
}

// P6.4: of three events, what must be older than one that must be older must be older.
func TestNoCircle(t *testing.T) {
	d := dice(13)
	tried := 0
	for range 10000 {
		w := someWorld(d)
		l := someEvents(d, w, 3)
		older := func(v, u api.Event) bool { return first(years.Which(w, v, u)) == api.Order{Older: true} }
		if older(l[0], l[1]) && older(l[1], l[2]) {
			tried++
			if !older(l[0], l[2]) {
				t.Fatal(w, l)
			}
		}
	}
	if tried < 50 {
		t.Error("too little was tried", tried)
	}
}

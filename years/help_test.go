package years_test

import (
	"math"
	"math/rand/v2"
	"slices"

	"gyttja/api"
	"gyttja/cases"
)

const far = api.Far

// extremes are numbers at and beyond all limits.
var extremes = []int{math.MinInt, math.MinInt + 1, -far - 1, -far, -api.MaxReach - 1, -100001, -100000, -1, 0, 1, 2, 8, 99, 100, 400, 2048, 2049, 99999, 100000, 100001, 200001, api.MaxReach + 1, far - 1, far, far + 1, math.MaxInt - 1, math.MaxInt}

func dice(seed uint64) *rand.Rand { return rand.New(rand.NewPCG(seed, 6)) }

// runs have the years from one number to the next one, two by two.
func runs(l ...int) []api.Run {
	var out []api.Run
	for i := 0; i < len(l); i += 2 {
		out = append(out, api.Run{Lo: l[i], Hi: l[i+1]})
	}
	return out
}

func first[T any](x T, _ api.Errno) T { return x }

func claim(a, b, lo, hi, by int) api.Claim { return api.Claim{A: a, B: b, Lo: lo, Hi: hi, By: by} }

func event(mark, lo, hi int) api.Event {
	return api.Event{Id: 1, Kind: 3, Mark: mark, Lo: lo, Hi: hi}
}

// example is the world of the chapter's examples, with its two events.
func example() (w api.World, v, u api.Event) {
	w.Claims = []api.Claim{claim(0, 1, 5, 7, 1), claim(1, 2, 10, 10, 1)}
	return w, api.Event{Id: 1, Mark: 2, Lo: -1}, api.Event{Id: 2, Mark: 1, Lo: 9, Hi: 9}
}

// broken is the example with a claim that leaves no chronology.
func broken() api.World {
	w, _, _ := example()
	w.Claims = append(w.Claims, claim(0, 2, 30, 31, 2))
	return w
}

// loose has the marks 5 and 6 in all leaves; 3 and 4, the datum, and 8 are tied to them in some.
func loose() api.World {
	return api.World{
		Claims: []api.Claim{claim(5, 6, 1, 2, 1)},
		Questions: []api.Question{
			{By: 2, Choices: [][]api.Claim{{claim(3, 4, 7, 7, 2)}, {claim(6, 3, 2, 2, 2)}}},
			{By: 3, Choices: [][]api.Claim{{claim(8, 6, -1, 0, 3)}, nil, {claim(0, 5, 4, 4, 3)}}},
		},
	}
}

// gapped has two leaves: the mark 1 lies 10 to 12 or 20 to 21 years below the datum.
func gapped() api.World {
	return api.World{Questions: []api.Question{{By: 1, Choices: [][]api.Claim{
		{claim(0, 1, 10, 12, 1)}, {claim(0, 1, 5, 6, 1), claim(0, 1, 7, 8, 1)}, {claim(0, 1, 20, 21, 1)},
	}}}}
}

// someMarks are the marks of worlds that are made by dice; the oracles below try all years of so few.
var someMarks = []int{0, 2, 7, 8}

func someClaim(d *rand.Rand, by int) api.Claim {
	a := d.IntN(len(someMarks))
	b := (a + 1 + d.IntN(len(someMarks)-1)) % len(someMarks)
	lo := d.IntN(5) - 2
	return claim(someMarks[a], someMarks[b], lo, lo+d.IntN(3), by)
}

// someWorld has a chronology, and at least one claim. In many such worlds some marks are tied, and others not.
func someWorld(d *rand.Rand) api.World {
	for {
		w := api.World{Claims: []api.Claim{someClaim(d, 1)}}
		for range d.IntN(3) {
			w.Claims = append(w.Claims, someClaim(d, 1))
		}
		for by := range d.IntN(3) {
			q := api.Question{By: by + 2}
			for range 1 + d.IntN(3) {
				var l []api.Claim
				for range d.IntN(3) {
					l = append(l, someClaim(d, q.By))
				}
				q.Choices = append(q.Choices, l)
			}
			w.Questions = append(w.Questions, q)
		}
		if len(first(cases.Leaves(w))) > 0 {
			return w
		}
	}
}

// marksOf are the marks of a world.
func marksOf(w api.World) []int {
	_, d, _ := cases.Chronology(w, nil)
	var marks []int
	for _, x := range d {
		marks = append(marks, x.Mark)
	}
	return marks
}

func someOf(d *rand.Rand, l []int) int { return l[d.IntN(len(l))] }

// someEvents are events at marks of a world.
func someEvents(d *rand.Rand, w api.World, n int) []api.Event {
	marks := marksOf(w)
	var l []api.Event
	for range n {
		lo := d.IntN(5) - 3
		l = append(l, event(someOf(d, marks), lo, lo+d.IntN(4)))
	}
	return l
}

// reach is how many years of a mark, either way, the oracle tries: more than tied marks of someWorld lie apart, and events beside them.
const reach = 20

// eachChronology tries all years, counted from a mark: it calls visit with those that all claims at some choices allow.
func eachChronology(w api.World, from int, visit func(years map[int]int)) {
	marks := marksOf(w)
	var claims func(l []api.Claim, questions []api.Question)
	var try func(l []api.Claim, left []int, years map[int]int)
	try = func(l []api.Claim, left []int, years map[int]int) {
		if !allowed(l, years) {
			return
		}
		if len(left) == 0 {
			visit(years)
			return
		}
		for year := -reach; year <= reach; year++ {
			if left[0] != from || year == 0 {
				years[left[0]] = year
				try(l, left[1:], years)
			}
		}
		delete(years, left[0])
	}
	claims = func(l []api.Claim, questions []api.Question) {
		if len(questions) == 0 {
			try(l, marks, map[int]int{})
			return
		}
		for _, choice := range questions[0].Choices {
			claims(slices.Concat(l, choice), questions[1:])
		}
	}
	claims(w.Claims, w.Questions)
}

// allowed reports whether years break no claim of marks that have years.
func allowed(l []api.Claim, years map[int]int) bool {
	for _, c := range l {
		a, ok := years[c.A]
		b, too := years[c.B]
		if ok && too && (b-a < c.Lo || b-a > c.Hi) {
			return false
		}
	}
	return true
}

func yearsOf(d []api.Dated) map[int]int {
	years := map[int]int{}
	for _, x := range d {
		years[x.Mark] = x.Year
	}
	return years
}

// isChronology reports whether years are a chronology of a world, with these choices.
func isChronology(w api.World, choices []int, d []api.Dated) bool {
	_, no := cases.CheckChronology(w, d)
	l, noChoices := cases.At(w, choices)
	return no == api.OK && noChoices == api.OK && allowed(l, yearsOf(d))
}

// copyOf is a world that shares no memory with w.
func copyOf(w api.World) api.World { return cases.Without(w, nil) }

func sameWorlds(w, v api.World) bool {
	return slices.Equal(w.Claims, v.Claims) && slices.EqualFunc(w.Questions, v.Questions, func(q, r api.Question) bool {
		return q.By == r.By && slices.EqualFunc(q.Choices, r.Choices, slices.Equal)
	})
}

// badWorlds are worlds that are not valid, and their errors.
func badWorlds() map[api.Errno]api.World {
	long := api.World{}
	for i := range 7 {
		long.Questions = append(long.Questions, api.Question{By: i + 1, Choices: make([][]api.Claim, 1)})
	}
	return map[api.Errno]api.World{
		api.ErrClaim:    {Claims: []api.Claim{claim(1, 1, 0, 0, 1)}},
		api.ErrLong:     long,
		api.ErrQuestion: {Claims: []api.Claim{claim(0, 1, 0, 0, 1)}, Questions: []api.Question{{By: 1}}},
	}
}

// badEvents are just beyond each limit; goodEvents just within.
func badEvents() []api.Event {
	return []api.Event{
		{}, {Id: 0, Mark: 1}, {Id: -1, Mark: 1}, {Id: 100000, Mark: 1}, {Id: 1, Kind: -1, Mark: 1}, {Id: 1, Kind: 100, Mark: 1},
		{Id: 1, Mark: -1}, {Id: 1, Mark: 2049}, {Id: 1, Mark: 1, Lo: 1, Hi: 0}, {Id: 1, Mark: 1, Lo: -100001}, {Id: 1, Mark: 1, Hi: 100001},
		{Id: 1, Mark: 1, Lo: 100001, Hi: 100001}, {Id: 1, Mark: 1, Lo: -100001, Hi: -100001}, {Id: 1, Mark: 1, Lo: -100000, Hi: -100001},
		{Id: 1, Mark: 1, Lo: math.MinInt, Hi: math.MaxInt}, {Id: math.MinInt, Mark: 1}, {Id: 1, Kind: math.MaxInt, Mark: 1}, {Id: 1, Mark: math.MaxInt},
	}
}

func goodEvents() []api.Event {
	return []api.Event{
		{Id: 1}, {Id: 99999, Kind: 99, Mark: 2048, Lo: -100000, Hi: 100000}, {Id: 1, Mark: 1, Lo: 100000, Hi: 100000}, {Id: 7, Kind: 1, Mark: 64, Lo: -100000, Hi: -100000}, {Id: 1, Lo: 3, Hi: 3},
	}
}

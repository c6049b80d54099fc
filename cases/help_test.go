package cases_test

import (
	"math"
	"math/rand/v2"
	"slices"

	"gyttja/api"
)

const far = api.Far

// extremes are numbers at and beyond all limits.
var extremes = []int{math.MinInt, -api.Far - 1, -api.Far, -api.MaxReach - 1, -api.MaxReach, -100001, -1, 0, 1, 2, 5, 6, 60, 2048, 2049, 99999, 100000, 100001, api.MaxReach, api.MaxReach + 1, api.Far, api.Far + 1, math.MaxInt}

func dice(seed uint64) *rand.Rand { return rand.New(rand.NewPCG(seed, 5)) }

func claim(a, b, lo, hi, by int) api.Claim { return api.Claim{A: a, B: b, Lo: lo, Hi: hi, By: by} }

func claims(l ...api.Claim) []api.Claim { return l }

func question(by int, choices ...[]api.Claim) api.Question {
	return api.Question{By: by, Choices: choices}
}

// open is a question of so many choices without claims.
func open(by, choices int) api.Question {
	return api.Question{By: by, Choices: make([][]api.Claim, choices)}
}

func world(l []api.Claim, questions ...api.Question) api.World {
	return api.World{Claims: l, Questions: questions}
}

// example is the world of the chapter's examples.
func example() api.World {
	return world(claims(claim(0, 5, 10, 12, 1)),
		question(2, claims(claim(5, 6, 3, 3, 2)), claims(claim(5, 6, 8, 9, 2))),
		question(3, nil, claims(claim(0, 6, 30, 40, 3)), claims(claim(0, 6, 14, 20, 3))))
}

// broken is the example with the claim that leaves no leaf.
func broken() api.World {
	w := example()
	w.Claims = append(w.Claims, claim(0, 6, 16, 17, 4))
	return w
}

// loose has leaves in which marks are not tied, or do not occur: the marks 3 and 4 in some, 8 and 9 in others; the datum in none but one.
func loose() api.World {
	return world(claims(claim(5, 6, 1, 2, 1)),
		question(2, claims(claim(3, 4, 7, 7, 2)), claims(claim(6, 3, 2, 2, 2))),
		question(3, claims(claim(8, 9, -1, 0, 3)), nil, claims(claim(0, 5, 4, 4, 3))))
}

// chainOf has so many marks, from 1 on, one claim between each two neighbours.
func chainOf(marks, by int) []api.Claim {
	var l []api.Claim
	for i := 1; i < marks; i++ {
		l = append(l, claim(i, i+1, 0, 5, by))
	}
	return l
}

func repeat(c api.Claim, n int) []api.Claim { return slices.Repeat([]api.Claim{c}, n) }

func questions(q api.Question, n int) []api.Question { return slices.Repeat([]api.Question{q}, n) }

type badWorld struct {
	w api.World
	e api.Errno
}

// badWorlds are worlds that are not valid, each with its error.
func badWorlds() map[string]badWorld {
	good, bad := claim(1, 2, 0, 0, 1), claim(1, 1, 0, 0, 1)
	wrong := question(1, claims(good), claims(bad))
	return map[string]badWorld{
		"a claim that is not valid":                      {world(claims(good, bad)), api.ErrClaim},
		"a claim that is not valid, too many questions":  {world(claims(bad), questions(wrong, 7)...), api.ErrClaim},
		"too many claims":                                {world(repeat(good, 401), wrong), api.ErrLong},
		"too many marks of claims":                       {world(chainOf(65, 1), wrong), api.ErrLong},
		"too many questions":                             {world(nil, questions(open(1, 1), 7)...), api.ErrLong},
		"too many questions, which are not valid":        {world(nil, questions(wrong, 7)...), api.ErrLong},
		"a question that is not valid":                   {world(claims(good), wrong), api.ErrQuestion},
		"a question without choices":                     {world(claims(good), open(1, 2), open(1, 0)), api.ErrQuestion},
		"a question of too many choices":                 {world(nil, open(1, 61)), api.ErrQuestion},
		"too many leaves, then a question not valid":     {world(nil, open(1, 60), open(1, 51), wrong), api.ErrQuestion},
		"too many claims of choices, one is not valid":   {world(nil, question(1, repeat(good, 401), claims(bad))), api.ErrQuestion},
		"too many leaves":                                {world(nil, open(1, 60), open(2, 51)), api.ErrLong},
		"3003 leaves":                                    {world(nil, open(1, 3), open(2, 7), open(3, 11), open(4, 13)), api.ErrLong},
		"as many leaves as six questions can have":       {world(nil, questions(open(1, 60), 6)...), api.ErrLong},
		"too many claims of a choice":                    {world(nil, question(1, nil, repeat(good, 401))), api.ErrLong},
		"too many claims with those of a choice":         {world(repeat(good, 399), question(1, repeat(good, 2), nil, claims(good))), api.ErrLong},
		"too many claims with those of two questions":    {world(repeat(good, 398), questions(question(1, claims(good), repeat(good, 1), repeat(good, 2)), 2)...), api.ErrLong},
		"too many marks with those of a choice":          {world(chainOf(64, 1), question(1, nil, claims(claim(64, 65, 0, 0, 1)))), api.ErrLong},
		"too many marks with the datum":                  {world(chainOf(64, 1), question(1, claims(claim(64, 0, 0, 0, 1)))), api.ErrLong},
		"too many marks of choices":                      {world(nil, question(1, chainOf(33, 1)), question(2, nil, claims(claim(100, 101, 0, 0, 2))), question(1, claims(claim(2048, 201, 0, 0, 1)), chainOf(62, 1))), api.ErrLong},
		"no chronology, and a question that has another": {world(claims(good, claim(1, 2, 1, 1, 2)), question(1, claims(claim(1, 2, 0, 0, 2)))), api.ErrQuestion},
	}
}

// someMarks are the marks of worlds that are made by dice; the oracles below try all years of so few.
var someMarks = []int{0, 3, 4, 9}

// reach is how far apart tied marks can be.
func reach(l []api.Claim) int {
	most := 0
	for _, c := range l {
		most = max(most, -c.Lo, c.Hi)
	}
	return most * max(0, len(marksIn(l))-1)
}

func someClaim(d *rand.Rand, by int) api.Claim {
	a := d.IntN(len(someMarks))
	b := (a + 1 + d.IntN(len(someMarks)-1)) % len(someMarks)
	lo := d.IntN(5) - 2
	return claim(someMarks[a], someMarks[b], lo, lo+d.IntN(3), by)
}

// someWorld has few claims and questions of few sources, which some of them share; about half of such worlds have leaves.
func someWorld(d *rand.Rand) api.World {
	var w api.World
	for range d.IntN(4) {
		w.Claims = append(w.Claims, someClaim(d, 1+d.IntN(4)))
	}
	for range d.IntN(4) {
		q := api.Question{By: 2 + d.IntN(4)}
		for range 1 + d.IntN(3) {
			var l []api.Claim
			for range d.IntN(4) {
				l = append(l, someClaim(d, q.By))
			}
			q.Choices = append(q.Choices, l)
		}
		w.Questions = append(w.Questions, q)
	}
	return w
}

// ways are the choices of the first questions of a world, as many as depth, in dictionary order.
func ways(w api.World, depth int) [][]int {
	if depth == 0 {
		return [][]int{{}}
	}
	var l [][]int
	for _, way := range ways(w, depth-1) {
		for choice := range w.Questions[depth-1].Choices {
			l = append(l, append(slices.Clone(way), choice))
		}
	}
	return l
}

// behind are the claims of a world, and those of choices of its first questions.
func behind(w api.World, way []int) []api.Claim {
	lists := [][]api.Claim{w.Claims}
	for i, choice := range way {
		lists = append(lists, w.Questions[i].Choices[choice])
	}
	return slices.Concat(lists...)
}

// leavesOf tries all choices, and all years of each.
func leavesOf(w api.World) [][]int {
	return slices.DeleteFunc(ways(w, len(w.Questions)), func(way []int) bool { return !isPossible(behind(w, way)) })
}

func isPossible(l []api.Claim) bool { return len(all(l)) > 0 }

func marksIn(l []api.Claim) []int {
	var marks []int
	for _, c := range l {
		marks = append(marks, c.A, c.B)
	}
	slices.Sort(marks)
	return slices.Compact(marks)
}

// marksOf are the marks of a world.
func marksOf(w api.World) []int {
	l := slices.Clone(w.Claims)
	for _, q := range w.Questions {
		l = append(l, slices.Concat(q.Choices...)...)
	}
	return marksIn(l)
}

// tiedTo has all marks to which claims lead from a mark, and the mark, rising.
func tiedTo(l []api.Claim, mark int) []int {
	list := []int{mark}
	for i := 0; i < len(list); i++ {
		for _, c := range l {
			for _, m := range []int{c.A, c.B} {
				if (c.A == list[i] || c.B == list[i]) && !slices.Contains(list, m) {
					list = append(list, m)
				}
			}
		}
	}
	slices.Sort(list)
	return list
}

// all tries all years: each chronology of claims in which the first mark of each part has the year 0.
func all(l []api.Claim) []map[int]int {
	marks, most := marksIn(l), reach(l)
	var found []map[int]int
	var try func(int, map[int]int)
	try = func(i int, years map[int]int) {
		if !allowed(l, years) {
			return
		}
		if i == len(marks) {
			copied := map[int]int{}
			for m, y := range years {
				copied[m] = y
			}
			found = append(found, copied)
			return
		}
		lo, hi := -most, most
		if tiedTo(l, marks[i])[0] == marks[i] {
			lo, hi = 0, 0
		}
		for y := lo; y <= hi; y++ {
			years[marks[i]] = y
			try(i+1, years)
		}
		delete(years, marks[i])
	}
	try(0, map[int]int{})
	return found
}

// allowed reports whether years break no claim of marks that have years.
func allowed(l []api.Claim, years map[int]int) bool {
	for _, c := range l {
		a, ok := years[c.A]
		b, too := years[c.B]
		if ok && too && (b-a < c.Lo || b-a > c.Hi) {
			return false
		}
	}
	return true
}

func dated(l ...int) []api.Dated {
	var d []api.Dated
	for i := 0; i < len(l); i += 2 {
		d = append(d, api.Dated{Mark: l[i], Year: l[i+1]})
	}
	return d
}

// yearsOf are the years of marks that are dated.
func yearsOf(d []api.Dated) map[int]int {
	years := map[int]int{}
	for _, x := range d {
		years[x.Mark] = x.Year
	}
	return years
}

// isChronology says what the chapter says of a chronology of a world, with these choices.
func isChronology(w api.World, way []int, d []api.Dated) bool {
	var marks []int
	for _, x := range d {
		marks = append(marks, x.Mark)
		if x.Mark == 0 && x.Year != 0 || x.Year < -far || x.Year > far {
			return false
		}
	}
	return slices.Equal(marks, marksOf(w)) && len(way) == len(w.Questions) && allowed(behind(w, way), yearsOf(d))
}

// believed is the world of some sources.
func believed(w api.World, by []int) api.World {
	var rest api.World
	for _, c := range w.Claims {
		if slices.Contains(by, c.By) {
			rest.Claims = append(rest.Claims, c)
		}
	}
	for _, q := range w.Questions {
		if slices.Contains(by, q.By) {
			rest.Questions = append(rest.Questions, q)
		}
	}
	return rest
}

// sourcesOf are the sources of a world.
func sourcesOf(w api.World) []int {
	var by []int
	for source := range 100001 {
		isBy := func(c api.Claim) bool { return c.By == source }
		asks := func(q api.Question) bool { return q.By == source }
		if slices.ContainsFunc(w.Claims, isBy) || slices.ContainsFunc(w.Questions, asks) {
			by = append(by, source)
		}
	}
	return by
}

func sameLists[T comparable](l, m [][]T) bool { return slices.EqualFunc(l, m, slices.Equal) }

func sameWorlds(w, v api.World) bool {
	return slices.Equal(w.Claims, v.Claims) && slices.EqualFunc(w.Questions, v.Questions, func(q, r api.Question) bool {
		return q.By == r.By && sameLists(q.Choices, r.Choices)
	})
}

// copyOf is a world that shares no memory with w.
func copyOf(w api.World) api.World {
	v := api.World{Claims: slices.Clone(w.Claims)}
	for _, q := range w.Questions {
		r := api.Question{By: q.By}
		for _, l := range q.Choices {
			r.Choices = append(r.Choices, slices.Clone(l))
		}
		v.Questions = append(v.Questions, r)
	}
	return v
}

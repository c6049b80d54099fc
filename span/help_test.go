package span_test

import (
	"math"
	"math/rand/v2"
	"reflect"
	"slices"

	"gyttja/api"
)

// extremes are numbers at and beyond all limits.
var extremes = []int{math.MinInt, -api.Far - 1, -api.Far, -api.MaxReach - 1, -api.MaxReach, -100001, -100000, -1, 0, 1, 5, 6, 9, 2048, 2049, 99999, 100000, 100001, api.MaxReach, api.MaxReach + 1, api.Far, api.Far + 1, math.MaxInt}

func claim(a, b, lo, hi, by int) api.Claim { return api.Claim{A: a, B: b, Lo: lo, Hi: hi, By: by} }

func ahead(i int) api.Step { return api.Step{Claim: i} }
func back(i int) api.Step  { return api.Step{Claim: i, Back: true} }

// example is the list of the chapter's examples.
func example() []api.Claim {
	return []api.Claim{claim(0, 5, 10, 12, 1), claim(5, 6, 3, 3, 2), claim(6, 9, -2, 4, 3), claim(0, 9, 14, 20, 4)}
}

// contradiction is the example with the claim that contradicts it.
func contradiction() []api.Claim { return append(example(), claim(9, 0, -13, -13, 7)) }

// apart is the example with another part, whose marks lie among its marks.
func apart() []api.Claim { return append(example(), claim(7, 2, 1, 4, 9)) }

// chainOf has so many marks, from 1 on, one claim between each two neighbours.
func chainOf(marks, lo, hi int) []api.Claim {
	var l []api.Claim
	for i := 1; i < marks; i++ {
		l = append(l, claim(i, i+1, lo, hi, i))
	}
	return l
}

func repeat(c api.Claim, n int) []api.Claim { return slices.Repeat([]api.Claim{c}, n) }

type badList struct {
	l []api.Claim
	e api.Errno
}

// badLists are lists that are not valid, each with its error.
func badLists() map[string]badList {
	good, bad := claim(1, 2, 0, 0, 1), claim(1, 1, 0, 0, 1)
	return map[string]badList{
		"a claim that is not valid":                 {[]api.Claim{good, bad}, api.ErrClaim},
		"no claim":                                  {[]api.Claim{{}}, api.ErrClaim},
		"too many claims":                           {repeat(good, 401), api.ErrLong},
		"too many claims, not valid":                {repeat(bad, 401), api.ErrLong},
		"too many marks":                            {chainOf(65, 0, 0), api.ErrLong},
		"too many marks, then one not valid":        {append(chainOf(65, 0, 0), bad), api.ErrClaim},
		"too many marks with the datum":             {append(chainOf(64, 0, 0), claim(0, 1, 0, 0, 1)), api.ErrLong},
		"too many marks of which each has a claim":  {append(chainOf(63, 0, 0), claim(100, 101, 0, 0, 1)), api.ErrLong},
		"a claim that is not valid, no chronology":  {append(contradiction(), bad), api.ErrClaim},
		"too many claims of the datum to the datum": {repeat(api.Claim{By: 1}, 500), api.ErrLong},
	}
}

func dice(seed uint64) *rand.Rand { return rand.New(rand.NewPCG(seed, 2)) }

// someMarks are the marks of lists that are made by dice; the oracles below try all years of so few.
var someMarks = []int{0, 3, 4, 9}

// someList has few claims of few marks and small numbers; about half of such lists have chronologies.
func someList(d *rand.Rand) []api.Claim {
	var l []api.Claim
	for range 1 + d.IntN(5) {
		a := d.IntN(len(someMarks))
		b := (a + 1 + d.IntN(len(someMarks)-1)) % len(someMarks)
		lo := d.IntN(5) - 2
		l = append(l, claim(someMarks[a], someMarks[b], lo, lo+d.IntN(3), 1+d.IntN(4)))
	}
	return l
}

// farthest is how far apart marks of one part of someList can be.
const farthest = 4 * 3

func marksIn(l []api.Claim) []int {
	set := map[int]bool{}
	for _, c := range l {
		set[c.A], set[c.B] = true, true
	}
	var marks []int
	for m := range api.MaxMark + 1 {
		if set[m] {
			marks = append(marks, m)
		}
	}
	return marks
}

// firstOf follows claims to the least mark that is tied to a mark.
func firstOf(l []api.Claim, mark int) int {
	for {
		least := mark
		for _, m := range tiedTo(l, mark) {
			least = min(least, m)
		}
		if least == mark {
			return mark
		}
		mark = least
	}
}

// tiedTo has all marks to which chains lead from a mark.
func tiedTo(l []api.Claim, mark int) []int {
	list := []int{mark}
	for i := 0; i < len(list); i++ {
		for _, c := range l {
			for _, m := range []int{c.A, c.B} {
				if (c.A == list[i] || c.B == list[i]) && !slices.Contains(list, m) {
					list = append(list, m)
				}
			}
		}
	}
	return list
}

// all tries all years: each chronology of a list in which the first mark of each part has the year 0.
func all(l []api.Claim) []map[int]int {
	marks := marksIn(l)
	var found []map[int]int
	var try func(int, map[int]int)
	try = func(i int, years map[int]int) {
		if !allowed(l, years) {
			return
		}
		if i == len(marks) {
			found = append(found, copyOf(years))
			return
		}
		lo, hi := -farthest, farthest
		if firstOf(l, marks[i]) == marks[i] {
			lo, hi = 0, 0
		}
		for y := lo; y <= hi; y++ {
			years[marks[i]] = y
			try(i+1, years)
		}
		delete(years, marks[i])
	}
	try(0, map[int]int{})
	return found
}

// allowed reports whether years break no claim of marks that have years.
func allowed(l []api.Claim, years map[int]int) bool {
	for _, c := range l {
		a, ok := years[c.A]
		b, too := years[c.B]
		if ok && too && (b-a < c.Lo || b-a > c.Hi) {
			return false
		}
	}
	return true
}

func copyOf(years map[int]int) map[int]int {
	copied := map[int]int{}
	for m, y := range years {
		copied[m] = y
	}
	return copied
}

// isChronology says what the chapter says of a chronology.
func isChronology(l []api.Claim, d []api.Dated) bool {
	years := map[int]int{}
	var marks []int
	for _, x := range d {
		marks = append(marks, x.Mark)
		years[x.Mark] = x.Year
		if x.Mark == 0 && x.Year != 0 || x.Year < -api.Far || x.Year > api.Far {
			return false
		}
	}
	return slices.Equal(marks, marksIn(l)) && allowed(l, years)
}

// yearOf is the year of a mark that is dated.
func yearOf(d []api.Dated, mark int) int {
	i := slices.IndexFunc(d, func(x api.Dated) bool { return x.Mark == mark })
	return d[i].Year
}

func sameNet(n, m api.Net) bool {
	return slices.Equal(n.Marks, m.Marks) && slices.EqualFunc(n.Most, m.Most, slices.Equal)
}

func isZero(n api.Net) bool { return reflect.ValueOf(n).IsZero() }

// shuffled are the same claims in another order.
func shuffled(d *rand.Rand, l []api.Claim) []api.Claim {
	m := slices.Clone(l)
	d.Shuffle(len(m), func(i, j int) { m[i], m[j] = m[j], m[i] })
	return m
}

package ash_test

import (
	"math/rand/v2"
	"slices"
	"testing"

	"gyttja/api"
	"gyttja/ash"
)

// badCases are cases that are no deals of the ashes of the example.
func badCases() map[string]api.Case {
	return map[string]api.Case{
		"no falls":             {},
		"an ash too few":       of([]int{1, 3}, []int{2}),
		"the first one away":   of([]int{2, 3}, []int{4}),
		"an ash too many":      of([]int{1, 3}, []int{2}, []int{4}, []int{5}),
		"an Id 0":              of([]int{0, 1, 3}, []int{2}, []int{4}),
		"a fall of Id 0":       of([]int{0}, []int{1, 3}, []int{2}, []int{4}),
		"an Id for another":    of([]int{1, 3}, []int{2, 5}),
		"in two falls":         of([]int{1, 3}, []int{2, 3}, []int{4}),
		"twice in a fall":      of([]int{1, 3, 3}, []int{2}, []int{4}),
		"twice first":          of([]int{1, 1, 3}, []int{2}, []int{4}),
		"a fall twice":         of([]int{1, 3}, []int{2}, []int{4}, []int{4}),
		"a falling fall":       of([]int{3, 1}, []int{2}, []int{4}),
		"falling behind first": of([]int{1, 4, 3}, []int{2}),
		"falls in other order": of([]int{2}, []int{1, 3}, []int{4}),
		"last falls turned":    of([]int{1, 3}, []int{4}, []int{2}),
		"an empty fall first":  of(nil, []int{1, 3}, []int{2}, []int{4}),
		"an empty fall":        of([]int{1, 3}, []int{}, []int{2}, []int{4}),
		"an empty fall last":   of([]int{1, 3}, []int{2}, []int{4}, nil),
		"marks":                of([]int{5, 70}, []int{9, 75}),
	}
}

// P4.1, R1: each function of a case has ErrAsh first, then ErrTie, then ErrCase if it is no deal.
func TestNoDeal(t *testing.T) {
	l := example()
	for name, c := range badCases() {
		for _, x := range []struct {
			l    []api.Ash
			ties []api.Tie
			e    api.Errno
		}{{l, nil, api.ErrCase}, {l, badTies()["turned"], api.ErrTie}, {badLists()["mark 0"], badTies()["turned"], api.ErrAsh}} {
			if e := ash.CheckCase(x.l, x.ties, c); e != x.e {
				t.Error("CheckCase", name, e)
			}
			if next, e := ash.Next(x.l, x.ties, c); e != x.e || len(next.Falls) != 0 {
				t.Error("Next", name, next, e)
			}
		}
		for e, l := range map[api.Errno][]api.Ash{api.ErrCase: l, api.ErrAsh: badLists()["equal marks"]} {
			if order, got := ash.Order(l, c); got != e || len(order) != 0 {
				t.Error("Order", name, order, got)
			}
			if round, got := ash.Round(l, c); got != e || len(round) != 0 {
				t.Error("Round", name, round, got)
			}
			for _, by := range []int{1, 0} {
				if claims, got := ash.Claims(l, c, by); got != e || len(claims) != 0 {
					t.Error("Claims", name, claims, got)
				}
			}
		}
	}
}

// P4.1: the deals of few ashes are exactly the cases that each put each ash into one fall, in order.
func TestDeals(t *testing.T) {
	l := marked(5, 6, 70)
	l[2].Id = 9
	falls := [][]int{{1}, {2}, {9}, {1, 2}, {1, 9}, {2, 9}, {1, 2, 9}, {2, 1}, {9, 2}, {3}, {}}
	tried, deals := 0, 0
	try := func(c api.Case) {
		tried++
		want := api.ErrCase
		if hasCase(allDeals(l), c) {
			want = api.OK
			deals++
		}
		if _, e := ash.Claims(l, c, 1); e != want {
			t.Error(c, e)
		}
	}
	for _, f := range falls {
		try(of(f))
		for _, g := range falls {
			try(of(f, g))
			for _, h := range falls {
				try(of(f, g, h))
			}
		}
	}
	if tried != 11+121+1331 || deals != 5 {
		t.Error(tried, deals)
	}
}

// P4.1: Compare and Finer of the chapter's examples.
func TestCompareExample(t *testing.T) {
	c, d := of([]int{1, 3}, []int{2, 4}), of([]int{1, 3}, []int{2}, []int{4})
	if ash.Compare(c, d) != -1 || ash.Compare(d, c) != 1 || ash.Compare(c, c) != 0 {
		t.Error("Compare")
	}
	if !ash.Finer(d, c) || ash.Finer(c, d) || !ash.Finer(c, c) {
		t.Error("Finer")
	}
}

// P4.1, P4.6: Compare is the order of growth strings; Finer tells of parts and is a partial order.
func TestCompareAll(t *testing.T) {
	deals := allDeals(marked(1, 2, 3, 4, 5))
	if len(deals) != 52 {
		t.Fatal(len(deals))
	}
	for i, c := range deals {
		for j, d := range deals {
			want := max(-1, min(1, i-j))
			if got := ash.Compare(c, d); got != want {
				t.Fatal(c, d, got)
			}
			inside := !slices.ContainsFunc(c.Falls, func(fall []int) bool {
				return !slices.ContainsFunc(d.Falls, func(whole []int) bool {
					return !slices.ContainsFunc(fall, func(id int) bool { return !slices.Contains(whole, id) })
				})
			})
			if ash.Finer(c, d) != inside {
				t.Fatal(c, d)
			}
			if (ash.Finer(c, d) && ash.Finer(d, c)) != (i == j) {
				t.Fatal(c, d)
			}
			for _, e := range deals {
				if ash.Finer(c, d) && ash.Finer(d, e) && !ash.Finer(c, e) {
					t.Fatal(c, d, e)
				}
			}
		}
	}
}

// P4.1: Compare and Finer of cases that are no deals of the same valid list.
func TestCompareOthers(t *testing.T) {
	for name, pair := range map[string][2]api.Case{
		"an ash less":     {of([]int{1}), of([]int{1}, []int{2})},
		"another ash":     {of([]int{1}, []int{2}), of([]int{1}, []int{3})},
		"of none":         {{}, of([]int{1})},
		"Id 0":            {of([]int{0, 1}), of([]int{0}, []int{1})},
		"Id -3":           {of([]int{-3, 1}), of([]int{-3}, []int{1})},
		"Id 100000":       {of([]int{1, 100000}), of([]int{1}, []int{100000})},
		"ten ashes":       {of([]int{1, 2, 3, 4, 5, 6, 7, 8, 9, 10}), of([]int{1}, []int{2, 3, 4, 5, 6, 7, 8, 9, 10})},
		"twice":           {of([]int{1, 1}), of([]int{1}, []int{1})},
		"one twice":       {of([]int{1, 2}), of([]int{1}, []int{1, 2})},
		"empty fall":      {of([]int{1, 2}), of([]int{1}, nil, []int{2})},
		"only empty":      {of(nil), of(nil, nil)},
		"none and empty":  {{}, of(nil)},
		"falls turned":    {of([]int{1, 2}), of([]int{2}, []int{1})},
		"a falling fall":  {of([]int{2, 1}), of([]int{1}, []int{2})},
		"both are turned": {of([]int{2}, []int{1}), of([]int{2}, []int{1})},
	} {
		c, d := pair[0], pair[1]
		if ash.Compare(c, d) != 0 || ash.Compare(d, c) != 0 || ash.Finer(c, d) || ash.Finer(d, c) {
			t.Error(name, ash.Compare(c, d), ash.Compare(d, c), ash.Finer(c, d), ash.Finer(d, c))
		}
	}
	empty := api.Case{Falls: [][]int{}}
	if ash.Compare(api.Case{}, empty) != 0 || !ash.Finer(api.Case{}, empty) || !ash.Finer(empty, api.Case{}) {
		t.Error("no ashes")
	}
	c, d := of([]int{1, 2, 3, 4, 5, 6, 7, 8, 99999}), of([]int{1}, []int{2, 3, 4, 5, 6, 7, 8, 99999})
	if ash.Compare(c, d) != -1 || !ash.Finer(d, c) || ash.Finer(c, d) {
		t.Error("nine ashes")
	}
}

// P4.1: Claims of the chapter's example, of falls whose first ash is not above, and its errors.
func TestClaims(t *testing.T) {
	l := example()
	claims, e := ash.Claims(l, of([]int{1, 3}, []int{2, 4}), 7)
	if e != api.OK || !slices.Equal(claims, []api.Claim{{A: 5, B: 70, By: 7}, {A: 9, B: 75, By: 7}}) {
		t.Error(claims, e)
	}
	// The deal need not be allowed.
	claims, e = ash.Claims(marked(300, 2, 100, 1), of([]int{1, 2, 4}, []int{3}), 99999)
	if e != api.OK || !slices.Equal(claims, []api.Claim{{A: 300, B: 2, By: 99999}, {A: 300, B: 1, By: 99999}}) {
		t.Error(claims, e)
	}
	for _, c := range []api.Case{{}, {Falls: [][]int{}}} {
		if claims, e := ash.Claims(nil, c, 1); e != api.OK || len(claims) != 0 {
			t.Error(claims, e)
		}
		if claims, e := ash.Claims(nil, c, 0); e != api.ErrCase || len(claims) != 0 {
			t.Error(claims, e)
		}
	}
	for _, by := range extremes {
		claims, e := ash.Claims(l, of([]int{1}, []int{2, 3, 4}), by)
		if isSource := 1 <= by && by <= 99999; (e == api.OK) != isSource || (len(claims) == 2) != isSource || !isSource && e != api.ErrCase {
			t.Error(by, claims, e)
		}
	}
}

// someYears gives marks years, most of them those of a case.
func someYears(d *rand.Rand, l []api.Ash, c api.Case) map[int]int {
	years := map[int]int{}
	for _, fall := range c.Falls {
		year := d.IntN(3)
		for _, id := range fall {
			years[ashOf(l, id).Mark] = year
		}
	}
	if d.IntN(2) == 0 && len(l) > 0 {
		years[l[d.IntN(len(l))].Mark] = d.IntN(3)
	}
	return years
}

func satisfy(years map[int]int, claims []api.Claim) bool {
	return !slices.ContainsFunc(claims, func(c api.Claim) bool {
		apart := years[c.B] - years[c.A]
		return apart < c.Lo || c.Hi < apart
	})
}

// P4.6: years that satisfy the claims of a case satisfy those of each finer one, and are those in which each fall has one year.
func TestClaimsOfFiner(t *testing.T) {
	d := dice(2)
	finer, broken := 0, 0
	for range 300 {
		l := someAshes(d, 5)
		deals := allDeals(l)
		for range 20 {
			c := deals[d.IntN(len(deals))]
			years := someYears(d, l, c)
			claims, e := ash.Claims(l, c, 3)
			oneYear := !slices.ContainsFunc(c.Falls, func(fall []int) bool {
				return slices.ContainsFunc(fall, func(id int) bool { return years[ashOf(l, id).Mark] != years[ashOf(l, fall[0]).Mark] })
			})
			if e != api.OK || satisfy(years, claims) != oneYear {
				t.Fatal(l, c, years, claims, e)
			}
			if !oneYear {
				broken++
				continue
			}
			for _, f := range deals {
				if !ash.Finer(f, c) {
					continue
				}
				finer++
				if claims, e := ash.Claims(l, f, 3); e != api.OK || !satisfy(years, claims) {
					t.Fatal(l, c, f, years, claims, e)
				}
			}
		}
	}
	if finer < 3000 || broken < 100 {
		t.Error("too little was tried", finer, broken)
	}
}

package ash_test

import (
	"slices"
	"testing"

	"gyttja/api"
	"gyttja/ash"
)

// P4.1, P4.4: Why, May and Must of the chapter's examples.
func TestWhyExample(t *testing.T) {
	l := example()
	unlike := example()
	unlike[3].Grain[1] = api.Band{Lo: 21, Hi: 21}
	for name, x := range map[string]struct {
		l         []api.Ash
		ties      []api.Tie
		a, b, why int
	}{
		"a tie":                     {l, []api.Tie{same(2, 4)}, 2, 3, api.WhyTie},
		"the order":                 {l, []api.Tie{same(2, 3)}, 1, 4, api.WhyOrder},
		"one core":                  {l, nil, 2, 1, api.WhyCore},
		"one core, and a tie":       {l, []api.Tie{same(1, 2)}, 1, 2, api.WhyCore},
		"one core, unlike":          {unlike, nil, 3, 4, api.WhyCore},
		"unlike":                    {unlike, nil, 4, 1, api.WhyGrain},
		"unlike, and tied":          {unlike, []api.Tie{same(1, 4)}, 1, 4, api.WhyGrain},
		"a tie of both":             {l, []api.Tie{not(1, 4)}, 1, 4, api.WhyTie},
		"ties of others":            {l, []api.Tie{same(2, 4), not(2, 4)}, 1, 3, api.WhyTie},
		"a tie, and the order":      {l, []api.Tie{same(2, 3), not(1, 4)}, 1, 4, api.WhyTie},
		"tied, no order":            {l, []api.Tie{same(2, 3), same(1, 4)}, 1, 4, api.WhyOrder},
		"they may":                  {l, nil, 4, 1, api.WhyNot},
		"they must":                 {l, []api.Tie{same(1, 4)}, 1, 4, api.WhyNot},
		"grains by ties":            {threeBands(), []api.Tie{same(1, 2)}, 3, 2, api.WhyTie},
		"grains that meet":          {threeBands(), nil, 3, 2, api.WhyNot},
		"no order, whatever is one": {l, []api.Tie{same(2, 3), same(1, 4)}, 2, 3, api.WhyOrder},
	} {
		if why, e := ash.Why(x.l, x.ties, x.a, x.b); e != api.OK || why != x.why {
			t.Error(name, why, e)
		}
		if why, e := ash.Why(x.l, x.ties, x.b, x.a); e != api.OK || why != x.why {
			t.Error(name, "turned", why, e)
		}
	}
	if must, e := ash.Must(l, []api.Tie{same(2, 4)}); e != api.OK || !slices.Equal(must, []api.Pair{{I: 2, J: 4}}) {
		t.Error(must, e)
	}
	if must, e := ash.Must(l, nil); e != api.OK || len(must) != 0 {
		t.Error(must, e)
	}
	if may, e := ash.May(l, nil); e != api.OK || !slices.Equal(may, []api.Pair{{I: 1, J: 3}, {I: 1, J: 4}, {I: 2, J: 3}, {I: 2, J: 4}}) {
		t.Error(may, e)
	}
}

// P4.4: May and Must of no ashes, and where no case is allowed.
func TestNoPairs(t *testing.T) {
	type pairs = func([]api.Ash, []api.Tie) ([]api.Pair, api.Errno)
	for name, f := range map[string]pairs{"May": ash.May, "Must": ash.Must} {
		for _, l := range [][]api.Ash{nil, {}, marked(7)} {
			if p, e := f(l, nil); e != api.OK || len(p) != 0 {
				t.Error(name, l, p, e)
			}
		}
		for _, ties := range [][]api.Tie{{same(1, 3), not(1, 3)}, {same(2, 3), same(1, 4)}, {same(1, 2)}} {
			if p, e := f(example(), ties); e != api.ErrNone || len(p) != 0 {
				t.Error(name, ties, p, e)
			}
		}
	}
	all := inCores(9)
	if may, e := ash.May(all, nil); e != api.OK || len(may) != 36 {
		t.Error(may, e)
	}
	if must, e := ash.Must(all, []api.Tie{same(1, 2), same(2, 9)}); e != api.OK || !slices.Equal(must, []api.Pair{{I: 1, J: 2}, {I: 1, J: 9}, {I: 2, J: 9}}) {
		t.Error(must, e)
	}
}

// P4.1, R1: Why of Ids that there are not: behind the errors of ashes and ties.
func TestWhyIds(t *testing.T) {
	l := example()
	for _, ids := range [][2]int{{1, 1}, {0, 1}, {1, 5}, {5, 1}, {5, 6}, {5, 5}, {-1, 70}, {2, 2}} {
		if why, e := ash.Why(l, nil, ids[0], ids[1]); e != api.ErrAsh || why != 0 {
			t.Error(ids, why, e)
		}
		if why, e := ash.Why(l, []api.Tie{not(3, 1)}, ids[0], ids[1]); e != api.ErrTie || why != 0 {
			t.Error(ids, why, e)
		}
	}
	if why, e := ash.Why(nil, nil, 1, 2); e != api.ErrAsh || why != 0 {
		t.Error(why, e)
	}
}

// reason tells why two ashes are in one fall in no allowed case, as the chapter says.
func reason(l []api.Ash, ties []api.Tie, deals []api.Case, a, b int) int {
	x, y := ashOf(l, a), ashOf(l, b)
	why := api.WhyTie
	for _, c := range deals {
		if together(c, a, b) && holds(l, ties, c) {
			if !hasRound(l, c) {
				return api.WhyNot
			}
			why = api.WhyOrder
		}
	}
	if coreOf(x) == coreOf(y) {
		return api.WhyCore
	}
	if !areAlike(x, y) {
		return api.WhyGrain
	}
	return why
}

// P4.1, P4.4: May and Must are what the allowed cases have in common; Why has the first reason, and none exactly for the pairs of May.
func TestPairs(t *testing.T) {
	d := dice(8)
	seen := map[int]int{}
	none, must := 0, 0
	for range 2500 {
		l := someAshes(d, 6)
		ties := someTies(d, l, 4)
		cases, deals := allowed(l, ties), allDeals(l)
		for _, p := range pairsIn(l, func(a, b int) bool { return true }) {
			want := reason(l, ties, deals, p.I, p.J)
			seen[want]++
			if why, e := ash.Why(l, ties, p.I, p.J); e != api.OK || why != want {
				t.Fatal(l, ties, p, why, e, want)
			}
		}
		may, noMay := ash.May(l, ties)
		all, noMust := ash.Must(l, ties)
		if len(cases) == 0 {
			none++
			if noMay != api.ErrNone || noMust != api.ErrNone || len(may)+len(all) != 0 {
				t.Fatal(l, ties, may, noMay, all, noMust)
			}
			continue
		}
		if noMay != api.OK || !slices.Equal(may, pairsIn(l, func(a, b int) bool {
			return slices.ContainsFunc(cases, func(c api.Case) bool { return together(c, a, b) })
		})) {
			t.Fatal(l, ties, may, noMay)
		}
		if noMust != api.OK || !slices.Equal(all, pairsIn(l, func(a, b int) bool {
			return !slices.ContainsFunc(cases, func(c api.Case) bool { return !together(c, a, b) })
		})) {
			t.Fatal(l, ties, all, noMust)
		}
		must += len(all)
		if !slices.Equal(may, pairsIn(l, func(a, b int) bool { return first(ash.Why(l, ties, b, a)) == api.WhyNot })) {
			t.Fatal(l, ties, may)
		}
	}
	if none < 100 || must < 50 || seen[api.WhyNot] < 500 || seen[api.WhyCore] < 500 || seen[api.WhyGrain] < 500 || seen[api.WhyTie] < 500 || seen[api.WhyOrder] < 50 {
		t.Error("too little was tried", none, must, seen)
	}
}

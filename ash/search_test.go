package ash_test

import (
	"slices"
	"testing"

	"gyttja/api"
	"gyttja/ash"
)

// exampleCases are all cases of the example, in order.
func exampleCases() []api.Case {
	return []api.Case{of([]int{1, 3}, []int{2, 4}), of([]int{1, 3}, []int{2}, []int{4}), of([]int{1}, []int{2, 3}, []int{4}), of([]int{1, 4}, []int{2}, []int{3}), of([]int{1}, []int{2, 4}, []int{3}), of([]int{1}, []int{2}, []int{3}, []int{4})}
}

// P4.1: CheckCase of the chapter's examples, and of one case for each condition that may be broken.
func TestCheckCase(t *testing.T) {
	l := example()
	unlike := example()
	unlike[0].Grain[2] = api.Band{Lo: 0, Hi: 9}
	touching := example()
	touching[0].Grain[2] = api.Band{Lo: 0, Hi: 10}
	for name, x := range map[string]struct {
		l    []api.Ash
		ties []api.Tie
		c    api.Case
		e    api.Errno
	}{
		"one core":                  {l, nil, of([]int{1, 2}, []int{3}, []int{4}), api.ErrCase},
		"a round":                   {l, nil, of([]int{1, 4}, []int{2, 3}), api.ErrRound},
		"two falls":                 {l, nil, of([]int{1, 3}, []int{2, 4}), api.OK},
		"four falls":                {l, nil, of([]int{1}, []int{2}, []int{3}, []int{4}), api.OK},
		"unlike grains":             {unlike, nil, of([]int{1, 3}, []int{2}, []int{4}), api.ErrCase},
		"grains that touch":         {touching, nil, of([]int{1, 3}, []int{2}, []int{4}), api.OK},
		"a tie that parts":          {l, []api.Tie{not(1, 3)}, of([]int{1, 3}, []int{2}, []int{4}), api.ErrCase},
		"a tie that joins":          {l, []api.Tie{same(1, 4)}, of([]int{1, 3}, []int{2}, []int{4}), api.ErrCase},
		"ties that hold":            {l, []api.Tie{same(1, 3), not(1, 2), not(3, 4), same(1, 3)}, of([]int{1, 3}, []int{2}, []int{4}), api.OK},
		"the last tie":              {l, []api.Tie{same(1, 3), not(1, 2), not(1, 3)}, of([]int{1, 3}, []int{2}, []int{4}), api.ErrCase},
		"a tie and a round":         {l, []api.Tie{not(2, 3)}, of([]int{1, 4}, []int{2, 3}), api.ErrCase},
		"grains and a round":        {unlike, nil, of([]int{1, 4}, []int{2, 3}), api.ErrCase},
		"a core and a round":        {marked(1, 5, 9), nil, of([]int{1, 3}, []int{2}), api.ErrCase},
		"a tie of one core":         {l, []api.Tie{same(1, 2)}, of([]int{1, 2}, []int{3}, []int{4}), api.ErrCase},
		"one core that is not next": {marked(1, 70, 9), nil, of([]int{1, 2, 3}), api.ErrCase},
		"no ashes":                  {nil, nil, api.Case{Falls: [][]int{}}, api.OK},
		"one ash":                   {marked(2048), nil, of([]int{1}), api.OK},
		"nine in one":               {inCores(9), nil, of([]int{1, 2, 3, 4, 5, 6, 7, 8, 9}), api.OK},
		"the ends of a core":        {marked(64, 65), nil, of([]int{1, 2}), api.OK},
		"within a core":             {marked(65, 128), nil, of([]int{1, 2}), api.ErrCase},
		"two meet and two, no all":  {threeBands(), nil, of([]int{1, 2, 3}), api.ErrCase},
	} {
		if e := ash.CheckCase(x.l, x.ties, x.c); e != x.e {
			t.Error(name, e)
		}
	}
}

// threeBands has three ashes: the first two meet, and the last two.
func threeBands() []api.Ash {
	l := inCores(3)
	l[0].Grain, l[1].Grain, l[2].Grain = grain(0, 5), grain(5, 7), grain(6, 9)
	return l
}

// P4.2: Cases, Count, First and Next of the chapter's examples.
func TestCasesExample(t *testing.T) {
	l, want := example(), exampleCases()
	if cases, e := ash.Cases(l, nil); e != api.OK || !sameCases(cases, want) {
		t.Error(cases, e)
	}
	ties := []api.Tie{not(1, 4), same(2, 4)}
	if cases, e := ash.Cases(l, ties); e != api.OK || !sameCases(cases, []api.Case{want[0], want[4]}) {
		t.Error(cases, e)
	}
	if n, e := ash.Count(l, ties); n != 2 || e != api.OK {
		t.Error(n, e)
	}
	if c, e := ash.First(l, ties); e != api.OK || !sameCase(c, want[0]) {
		t.Error(c, e)
	}
	if c, e := ash.Next(l, ties, want[0]); e != api.OK || !sameCase(c, want[4]) {
		t.Error(c, e)
	}
	if c, e := ash.Next(l, ties, want[4]); e != api.ErrNone || len(c.Falls) != 0 {
		t.Error(c, e)
	}
}

// P4.2: of no ashes there is one case; where ties contradict there is none.
func TestFewCases(t *testing.T) {
	for _, l := range [][]api.Ash{nil, {}} {
		cases, e := ash.Cases(l, []api.Tie{})
		if e != api.OK || len(cases) != 1 || len(cases[0].Falls) != 0 {
			t.Error(cases, e)
		}
		if n, e := ash.Count(l, nil); n != 1 || e != api.OK {
			t.Error(n, e)
		}
		if c, e := ash.First(l, nil); e != api.OK || len(c.Falls) != 0 {
			t.Error(c, e)
		}
		if c, e := ash.Next(l, nil, api.Case{}); e != api.ErrNone || len(c.Falls) != 0 {
			t.Error(c, e)
		}
	}
	ties := []api.Tie{same(2, 4), not(2, 4)}
	l := example()
	if cases, e := ash.Cases(l, ties); e != api.OK || len(cases) != 0 {
		t.Error(cases, e)
	}
	if n, e := ash.Count(l, ties); n != 0 || e != api.OK {
		t.Error(n, e)
	}
	if c, e := ash.First(l, ties); e != api.ErrNone || len(c.Falls) != 0 {
		t.Error(c, e)
	}
	if c, e := ash.Next(l, ties, exampleCases()[0]); e != api.ErrNone || len(c.Falls) != 0 {
		t.Error(c, e)
	}
}

// P4.2, P7: of few ashes, the cases are exactly the deals that are allowed, in order; Next goes on from each deal.
func TestCasesAll(t *testing.T) {
	d := dice(4)
	seen := map[api.Errno]int{}
	many := 0
	for range 1500 {
		l := someAshes(d, 6)
		ties := someTies(d, l, 4)
		want := allowed(l, ties)
		cases, e := ash.Cases(l, ties)
		if e != api.OK || !sameCases(cases, want) {
			t.Fatal(l, ties, cases, e, want)
		}
		if n, e := ash.Count(l, ties); e != api.OK || n != len(want) {
			t.Fatal(l, ties, n, e, want)
		}
		checkFirst(t, l, ties, want)
		left := want
		for _, c := range allDeals(l) {
			left = slices.DeleteFunc(left, func(x api.Case) bool { return inOrder(x, c) <= 0 })
			got, e := ash.Next(l, ties, c)
			if (e == api.OK) != (len(left) > 0) || e == api.OK && !sameCase(got, left[0]) || e != api.OK && (e != api.ErrNone || len(got.Falls) != 0) {
				t.Fatal(l, ties, c, got, e, left)
			}
			checked := api.OK
			if !holds(l, ties, c) {
				checked = api.ErrCase
			} else if hasRound(l, c) {
				checked = api.ErrRound
			}
			seen[checked]++
			if e := ash.CheckCase(l, ties, c); e != checked {
				t.Fatal(l, ties, c, e, checked)
			}
		}
		if len(cases) > 5 {
			many++
		}
	}
	if many < 100 || seen[api.OK] < 1000 || seen[api.ErrCase] < 1000 || seen[api.ErrRound] < 100 {
		t.Error("too little was tried", many, seen)
	}
}

func checkFirst(t *testing.T, l []api.Ash, ties []api.Tie, want []api.Case) {
	first, e := ash.First(l, ties)
	if len(want) == 0 {
		if e != api.ErrNone || len(first.Falls) != 0 {
			t.Fatal(l, ties, first, e)
		}
	} else if e != api.OK || !sameCase(first, want[0]) {
		t.Fatal(l, ties, first, e, want[0])
	}
}

// walk goes through the cases by First and Next.
func walk(l []api.Ash, ties []api.Tie) []api.Case {
	var cases []api.Case
	c, e := ash.First(l, ties)
	for e == api.OK {
		cases = append(cases, c)
		c, e = ash.Next(l, ties, c)
	}
	return cases
}

// P4.2: First and Next go through all cases also of as many ashes as may be; of ashes that nothing holds apart, all deals are allowed.
func TestNineAshes(t *testing.T) {
	l := inCores(9)
	want := allDeals(l)
	if n, e := ash.Count(l, nil); e != api.OK || n != 21147 || len(want) != n {
		t.Fatal(n, e, len(want))
	}
	if !sameCases(walk(l, nil), want) {
		t.Error("other cases")
	}
	d := dice(5)
	for range 5 {
		l, ties := marked(), []api.Tie(nil)
		for i, at := range d.Perm(40)[:9] {
			l = append(l, api.Ash{Id: 11111 * (i + 1), Mark: 64*(at%8) + 1 + at/8, Grain: grain(d.IntN(2), 1+d.IntN(9))})
		}
		for range d.IntN(3) {
			ties = append(ties, someTie(d, l))
		}
		if want := allowed(l, ties); !sameCases(walk(l, ties), want) {
			t.Error(l, ties, len(want))
		}
	}
}

// P4.2: Cases of as many cases as may be, and of one more.
func TestMostCases(t *testing.T) {
	l, ties := marked(194, 6, 129, 130, 199, 198, 68, 2), []api.Tie{not(4, 7), not(6, 8), not(2, 5), not(5, 7)}
	want := allowed(l, ties)
	if cases, e := ash.Cases(l, ties); e != api.OK || len(want) != 400 || !sameCases(cases, want) {
		t.Error(len(cases), e, len(want))
	}
	l, ties = marked(2, 65, 72, 4, 131, 3, 6, 134, 5), []api.Tie{not(1, 5), not(3, 6)}
	if n := len(allowed(l, ties)); n != 401 {
		t.Error(n)
	}
	if n, e := ash.Count(l, ties); e != api.OK || n != 401 {
		t.Error(n, e)
	}
	for _, l := range [][]api.Ash{l, inCores(9)} {
		if cases, e := ash.Cases(l, ties); e != api.ErrLong || len(cases) != 0 {
			t.Error(len(cases), e)
		}
	}
}

// P4.5: with a further tie there are no further cases; with wider bands no case is lost.
func TestFurtherTies(t *testing.T) {
	d := dice(6)
	fewer, more := 0, 0
	for range 1500 {
		l := someAshes(d, 6)
		if len(l) < 2 {
			continue
		}
		ties := someTies(d, l, 3)
		cases, _ := ash.Cases(l, ties)
		further, e := ash.Cases(l, slices.Insert(slices.Clone(ties), d.IntN(len(ties)+1), someTie(d, l)))
		if e != api.OK || slices.ContainsFunc(further, func(c api.Case) bool { return !hasCase(cases, c) }) {
			t.Fatal(l, ties, further, e)
		}
		if len(further) < len(cases) {
			fewer++
		}
		wide := slices.Clone(l)
		a := &wide[d.IntN(len(l))]
		for i, b := range a.Grain {
			a.Grain[i] = api.Band{Lo: d.IntN(b.Lo + 1), Hi: b.Hi + d.IntN(4)}
		}
		wider, e := ash.Cases(wide, ties)
		if e != api.OK || slices.ContainsFunc(cases, func(c api.Case) bool { return !hasCase(wider, c) }) {
			t.Fatal(l, wide, ties, wider, e)
		}
		if len(wider) > len(cases) {
			more++
		}
	}
	if fewer < 300 || more < 50 {
		t.Error("too little was tried", fewer, more)
	}
}

// P4.5: each case is allowed with the ties that say of each two ashes what it says; no other one is.
func TestTiesOfCase(t *testing.T) {
	d := dice(7)
	tried := 0
	for range 600 {
		l := someAshes(d, 6)
		ties := someTies(d, l, 3)
		cases, _ := ash.Cases(l, ties)
		for _, c := range cases {
			all := slices.Clone(ties)
			for _, p := range pairsIn(l, func(a, b int) bool { return true }) {
				all = append(all, api.Tie{A: p.I, B: p.J, Same: together(c, p.I, p.J)})
			}
			tried++
			if only, e := ash.Cases(l, all); ash.CheckCase(l, all, c) != api.OK || e != api.OK || !sameCases(only, []api.Case{c}) {
				t.Fatal(l, ties, c, only, e)
			}
		}
	}
	if tried < 1000 {
		t.Error("too little was tried", tried)
	}
}

package span_test

import (
	"slices"
	"testing"

	"gyttja/api"
	"gyttja/span"
)

// P2.2: where chains lead, and their bounds.
func TestWalk(t *testing.T) {
	for _, c := range []struct {
		chain          []api.Step
		from, to, most int
	}{
		{[]api.Step{ahead(0)}, 0, 5, 12},
		{[]api.Step{back(0)}, 5, 0, -10},
		{[]api.Step{ahead(0), ahead(1), ahead(2)}, 0, 9, 19},
		{[]api.Step{back(2), back(1)}, 9, 5, -1},
		{[]api.Step{back(3)}, 9, 0, -14},
		{[]api.Step{ahead(0), back(0)}, 0, 0, 2},
		{[]api.Step{back(3), ahead(3), back(3)}, 9, 0, -8},
		{slices.Repeat([]api.Step{ahead(0), back(0)}, 200), 0, 0, 400},
	} {
		if from, to, most, e := span.Walk(example(), c.chain); from != c.from || to != c.to || most != c.most || e != api.OK {
			t.Error(c, from, to, most, e)
		}
	}
	if from, to, most, e := span.Walk(chainOf(64, -100000, 100000), slices.Repeat([]api.Step{ahead(0), back(0)}, 200)); from != 1 || to != 1 || most != 40000000 || e != api.OK {
		t.Error(from, to, most, e)
	}
}

// wrongChains are no chains of the example, each with its error.
func wrongChains() []struct {
	chain []api.Step
	e     api.Errno
} {
	return []struct {
		chain []api.Step
		e     api.Errno
	}{
		{nil, api.ErrChain}, {[]api.Step{}, api.ErrChain}, {[]api.Step{ahead(-1)}, api.ErrChain}, {[]api.Step{ahead(4)}, api.ErrChain}, {[]api.Step{ahead(0), ahead(5)}, api.ErrChain},
		{[]api.Step{ahead(extremes[0])}, api.ErrChain}, {[]api.Step{back(extremes[len(extremes)-1])}, api.ErrChain},
		{[]api.Step{ahead(2), ahead(1)}, api.ErrChain}, {[]api.Step{ahead(0), ahead(0)}, api.ErrChain}, {[]api.Step{ahead(0), back(3)}, api.ErrChain}, {[]api.Step{ahead(0), ahead(1), back(0)}, api.ErrChain},
		{slices.Repeat([]api.Step{ahead(0)}, 400), api.ErrChain}, {slices.Repeat([]api.Step{ahead(0)}, 401), api.ErrLong},
		{append(slices.Repeat([]api.Step{ahead(0), back(0)}, 200), ahead(0)), api.ErrLong}, {slices.Repeat([]api.Step{ahead(-1)}, 401), api.ErrLong},
	}
}

// P2.2, R1: the errors of Walk, which CheckCycle has, too.
func TestWalkErrors(t *testing.T) {
	for _, c := range wrongChains() {
		if from, to, most, e := span.Walk(example(), c.chain); from != 0 || to != 0 || most != 0 || e != c.e {
			t.Error("Walk", c, from, to, most, e)
		}
		if e := span.CheckCycle(example(), c.chain); e != c.e {
			t.Error("CheckCycle", c, e)
		}
	}
	if _, _, _, e := span.Walk(nil, []api.Step{ahead(0)}); e != api.ErrChain {
		t.Error(e)
	}
}

// P2.2: a chain contradicts if it ends where it begins and its bound is below 0.
func TestCheckCycle(t *testing.T) {
	zero := []api.Claim{claim(1, 2, 4, 4, 1), claim(1, 2, 4, 5, 2), claim(1, 2, 5, 5, 3)}
	for _, c := range []struct {
		l     []api.Claim
		chain []api.Step
		e     api.Errno
	}{
		{contradiction(), []api.Step{back(3), back(4)}, api.OK},
		{contradiction(), []api.Step{back(4), back(3)}, api.OK},
		{contradiction(), []api.Step{back(3), back(4), back(3), back(4)}, api.OK},
		{contradiction(), []api.Step{back(3)}, api.ErrChain},
		{contradiction(), []api.Step{ahead(3), back(3)}, api.ErrChain},
		{zero, []api.Step{ahead(0), back(1)}, api.ErrChain},
		{zero, []api.Step{ahead(0), back(2)}, api.OK},
		{zero, []api.Step{ahead(2), back(0)}, api.ErrChain},
		{zero, []api.Step{ahead(1), back(2)}, api.ErrChain},
		{zero, []api.Step{ahead(0), back(2), ahead(1)}, api.ErrChain},
		{zero, []api.Step{back(2)}, api.ErrChain},
	} {
		if e := span.CheckCycle(c.l, c.chain); e != c.e {
			t.Error(c, e)
		}
	}
}

// P2.2: Cycle returns a chain that contradicts, or none.
func TestCycle(t *testing.T) {
	for _, l := range [][]api.Claim{nil, {}, example(), apart(), chainOf(64, -100000, 100000), repeat(claim(1, 2, 3, 3, 1), 400)} {
		if c, e := span.Cycle(l); len(c) != 0 || e != api.OK {
			t.Error(l, c, e)
		}
	}
	for _, l := range [][]api.Claim{
		contradiction(),
		append(apart(), claim(2, 7, 0, 9, 3)),
		{claim(1, 2, 4, 4, 1), claim(1, 2, 5, 5, 1)},
		{claim(1, 2, 4, 4, 1), claim(2, 1, 4, 4, 1)},
		{claim(1, 2, 100000, 100000, 1), claim(1, 2, -100000, -100000, 1)},
		append(chainOf(64, 100000, 100000), claim(64, 1, 100000, 100000, 1)),
	} {
		c, e := span.Cycle(l)
		if e != api.OK || len(c) == 0 || len(c) > api.MaxNet || span.CheckCycle(l, c) != api.OK {
			t.Error(l, c, e)
		}
	}
}

// P2.2: a contradiction of all marks, which no shorter chain shows.
func TestLongestCycle(t *testing.T) {
	ring := append(chainOf(64, -100000, 0), claim(64, 1, -100000, -1, 99))
	for range 2 {
		c, e := span.Cycle(ring)
		if e != api.OK || len(c) != 64 || span.CheckCycle(ring, c) != api.OK {
			t.Error(c, e)
		}
		slices.Reverse(ring)
	}
	for i := range ring {
		ring[i].Hi = 0
	}
	if c, e := span.Cycle(ring); len(c) != 0 || e != api.OK {
		t.Error(c, e)
	}
}

// P2.2: many claims with the greatest numbers, all of which contradict each other.
func TestCycleOfExtremes(t *testing.T) {
	d := dice(22)
	for range 20 {
		var l []api.Claim
		for range 400 {
			a := d.IntN(64)
			years := 100000 * (d.IntN(3) - 1)
			l = append(l, claim(a, (a+1+d.IntN(63))%64, years, years, 1+d.IntN(400)))
		}
		c, e := span.Cycle(l)
		if e != api.OK || len(c) == 0 || len(c) > api.MaxNet || span.CheckCycle(l, c) != api.OK {
			t.Fatal(c, e)
		}
		if _, e := span.Close(l); e != api.ErrChronology {
			t.Fatal(e)
		}
		by, e := span.Conflict(l)
		if e != api.OK || span.CheckConflict(l, by) != api.OK {
			t.Fatal(by, e)
		}
	}
}

// P2.7: for every list there is either a chronology or a chain that contradicts, and not both.
func TestChronologyOrCycle(t *testing.T) {
	d := dice(21)
	count := map[bool]int{}
	for range 600 {
		l := someList(d)
		possible := len(all(l)) > 0
		count[possible]++
		chain, e := span.Cycle(l)
		if e != api.OK || possible != (len(chain) == 0) || !possible && span.CheckCycle(l, chain) != api.OK || len(chain) > api.MaxNet {
			t.Fatal(l, possible, chain, e)
		}
		dated, e := span.Chronology(l, nil)
		if possible != (e == api.OK) || possible != (len(dated) > 0) || !possible && e != api.ErrChronology {
			t.Fatal(l, possible, dated, e)
		}
	}
	if count[true] < 100 || count[false] < 100 {
		t.Error("too little was tried", count)
	}
}

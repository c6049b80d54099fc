package span_test

import (
	"slices"
	"testing"

	"gyttja/api"
	"gyttja/span"
)

// outcomes calls each function that takes a list and tells an error: the error of each, and whether all other results are zero values.
func outcomes(l []api.Claim, a, b, n int) map[string]struct {
	e    api.Errno
	zero bool
} {
	from, to, walked, walk := span.Walk(l, []api.Step{{Claim: n}})
	cycle, noCycle := span.Cycle(l)
	net, noNet := span.Close(l)
	lo, hi, noBounds := span.Bounds(l, a, b)
	most, chain, noMost := span.Most(l, a, b)
	chosen, noChronology := span.Chronology(l, []int{n})
	attained, noAttain := span.Attain(l, a, b, n)
	extended, noExtend := span.Extend(l, []api.Dated{{Mark: a, Year: n}})
	by, noConflict := span.Conflict(l)
	needless, noNeedless := span.Needless(l)
	return map[string]struct {
		e    api.Errno
		zero bool
	}{
		"Check":           {span.Check(l), true},
		"Walk":            {walk, from == 0 && to == 0 && walked == 0},
		"CheckCycle":      {span.CheckCycle(l, []api.Step{{Claim: n}}), true},
		"Cycle":           {noCycle, len(cycle) == 0},
		"Close":           {noNet, isZero(net)},
		"Bounds":          {noBounds, lo == 0 && hi == 0},
		"Most":            {noMost, most == 0 && len(chain) == 0},
		"Chronology":      {noChronology, len(chosen) == 0},
		"CheckChronology": {span.CheckChronology(l, []api.Dated{{Mark: a, Year: n}}), true},
		"Attain":          {noAttain, len(attained) == 0},
		"Extend":          {noExtend, len(extended) == 0},
		"Conflict":        {noConflict, len(by) == 0},
		"CheckConflict":   {span.CheckConflict(l, []int{n}), true},
		"Needless":        {noNeedless, len(needless) == 0},
	}
}

// P1, R1, R2: each function has the error of Check first, and zero values beside it.
func TestBadLists(t *testing.T) {
	for name, c := range badLists() {
		for _, x := range [][3]int{{1, 2, 0}, {1, 1, -1}, {-1, 3000, 401}} {
			for function, o := range outcomes(c.l, x[0], x[1], x[2]) {
				if o.e != c.e || !o.zero {
					t.Error(function, "of", name, o)
				}
			}
		}
		if len(span.Marks(c.l)) != 0 || len(span.Sources(c.l)) != 0 || len(span.Parts(c.l)) != 0 {
			t.Error("Marks, Sources or Parts of", name)
		}
	}
}

// P1, R2: no function panics, whatever its arguments are; beside an error all else is zero.
func TestAnyArguments(t *testing.T) {
	lists := [][]api.Claim{nil, {}, example(), contradiction(), apart(), chainOf(9, -100000, 100000)}
	for _, a := range extremes {
		for _, b := range extremes {
			c := claim(a, b, b, a, a)
			if (span.CheckClaim(c) == api.OK) != (span.Check([]api.Claim{c}) == api.OK) {
				t.Error(c)
			}
			span.Without([]api.Claim{c}, []int{a, b})
			span.CheckNet(api.Net{Marks: []int{a, b}, Most: [][]int{{0, a}, {b, 0}}})
			span.Grow(api.Net{Marks: []int{a}, Most: [][]int{{b}}}, c)
			span.Grow(exampleNet(), c)
			for _, l := range lists {
				for function, o := range outcomes(l, a, b, a) {
					if o.e != api.OK && !o.zero {
						t.Error(function, l, a, b, o)
					}
				}
			}
		}
	}
}

// R4, P1: no argument is changed, whatever is done to a result; no two results share memory.
func TestMemory(t *testing.T) {
	l, keep := append(apart(), claim(0, 6, 13, 15, 5)), append(apart(), claim(0, 6, 13, 15, 5))
	by, picks, fixed := []int{4, 1}, []int{2, 7, -1}, dated(5, 12, 9, 14)
	rest := span.Without(l, nil)
	rest[0].A = 77
	for _, marks := range [][]int{span.Marks(l), span.Sources(l), span.Parts(l)[0]} {
		marks[0] = 77
	}
	if parts := span.Parts(l); append(parts[0], 77)[0] != 0 || parts[1][0] != 2 {
		t.Error(parts)
	}
	span.Without(l, by)
	span.Chronology(l, picks)
	span.Extend(l, fixed)
	span.Conflict(l)
	span.CheckConflict(l, by)
	span.Needless(l)
	span.Attain(l, 0, 9, 15)
	if !slices.Equal(l, keep) || !slices.Equal(by, []int{4, 1}) || !slices.Equal(picks, []int{2, 7, -1}) || !slices.Equal(fixed, dated(5, 12, 9, 14)) {
		t.Error(l, by, picks, fixed)
	}
	n := exampleNet()
	for _, c := range []api.Claim{claim(0, 9, -100000, 100000, 1), claim(0, 9, 15, 15, 1), claim(0, 7, 1, 1, 1)} {
		m, e := span.Grow(n, c)
		if e != api.OK {
			t.Fatal(e)
		}
		m.Marks[0] = 77
		m.Most[0][0], m.Most[3][3] = 77, 77
		if !sameNet(n, exampleNet()) {
			t.Fatal(n)
		}
	}
}

// P1: all functions of as many claims of as many marks as may be come to an end in due time.
func TestLargestList(t *testing.T) {
	d := dice(71)
	var l []api.Claim
	years := make([]int, 64)
	for i := range years {
		years[i] = 100 * d.IntN(500)
	}
	for i := range 400 {
		a := d.IntN(64)
		b := (a + 1 + d.IntN(63)) % 64
		l = append(l, claim(a, b, years[b]-years[a]-d.IntN(100), years[b]-years[a]+d.IntN(100), i+1))
	}
	for _, o := range outcomes(l, 0, 63, 0) {
		if o.e == api.ErrLong || o.e == api.ErrClaim {
			t.Error(o)
		}
	}
	got, e := span.Chronology(l, []int{3, 11, 8})
	if e != api.OK || !isChronology(l, got) {
		t.Error(e)
	}
	wrong := append(l[:399:399], claim(0, 63, 100000, 100000, 500))
	by, e := span.Conflict(wrong)
	if e != api.OK || span.CheckConflict(wrong, by) != api.OK {
		t.Error(by, e)
	}
}

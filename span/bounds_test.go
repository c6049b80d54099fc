package span_test

import (
	"cmp"
	"slices"
	"testing"

	"gyttja/api"
	"gyttja/span"
)

// P2.4: the least and the greatest number of years.
func TestBounds(t *testing.T) {
	for _, c := range []struct {
		l            []api.Claim
		a, b, lo, hi int
	}{
		{example(), 0, 9, 14, 19}, {example(), 9, 0, -19, -14}, {example(), 6, 9, -1, 4}, {example(), 5, 9, 2, 7}, {example(), 0, 6, 13, 15}, {example(), 5, 6, 3, 3},
		{example(), 0, 0, 0, 0}, {example(), 6, 6, 0, 0},
		{apart(), 0, 9, 14, 19}, {apart(), 7, 2, 1, 4}, {apart(), 2, 7, -4, -1}, {apart(), 0, 7, -far, far}, {apart(), 2, 9, -far, far}, {apart(), 7, 7, 0, 0},
		{chainOf(64, -100000, 100000), 1, 64, -6300000, 6300000}, {chainOf(64, 100000, 100000), 64, 1, -6300000, -6300000},
	} {
		if lo, hi, e := span.Bounds(c.l, c.a, c.b); lo != c.lo || hi != c.hi || e != api.OK {
			t.Error(c.a, c.b, lo, hi, e)
		}
	}
}

// P2.4, R1: errors of functions of two marks: marks first, then the chronology, then the parts.
func TestMarkErrors(t *testing.T) {
	broken := append(contradiction(), claim(7, 2, 1, 4, 9))
	for _, c := range []struct {
		l    []api.Claim
		a, b int
		e    api.Errno
		most api.Errno // of Most and Attain
	}{
		{nil, 0, 0, api.ErrMark, api.ErrMark}, {example(), 0, 7, api.ErrMark, api.ErrMark}, {example(), 7, 0, api.ErrMark, api.ErrMark}, {example(), 7, 7, api.ErrMark, api.ErrMark},
		{example(), 0, -1, api.ErrMark, api.ErrMark}, {example(), 2049, 9, api.ErrMark, api.ErrMark}, {example(), extremes[0], 9, api.ErrMark, api.ErrMark},
		{chainOf(9, 0, 0), 0, 1, api.ErrMark, api.ErrMark}, {contradiction(), 0, 7, api.ErrMark, api.ErrMark}, {contradiction(), 4, 9, api.ErrMark, api.ErrMark},
		{contradiction(), 0, 9, api.ErrChronology, api.ErrChronology}, {contradiction(), 5, 5, api.ErrChronology, api.ErrChronology}, {broken, 2, 7, api.ErrChronology, api.ErrChronology}, {broken, 2, 9, api.ErrChronology, api.ErrChronology},
		{apart(), 0, 7, api.OK, api.ErrFar}, {apart(), 7, 0, api.OK, api.ErrFar}, {apart(), 2, 9, api.OK, api.ErrFar},
	} {
		if lo, hi, e := span.Bounds(c.l, c.a, c.b); e != c.e || e != api.OK && (lo != 0 || hi != 0) {
			t.Error("Bounds", c, lo, hi, e)
		}
		if n, chain, e := span.Most(c.l, c.a, c.b); n != 0 || len(chain) != 0 || e != c.most {
			t.Error("Most", c, n, chain, e)
		}
		for _, years := range extremes {
			if d, e := span.Attain(c.l, c.a, c.b, years); len(d) != 0 || e != c.most {
				t.Error("Attain", c, years, d, e)
			}
		}
	}
}

// P2.7: the numbers of years in chronologies are exactly those within Bounds.
func TestBoundsAreExact(t *testing.T) {
	d := dice(41)
	for range 300 {
		l := someList(d)
		found := all(l)
		for _, a := range marksIn(l) {
			for _, b := range marksIn(l) {
				lo, hi, e := span.Bounds(l, a, b)
				if len(found) == 0 {
					if e != api.ErrChronology {
						t.Fatal(l, a, b, e)
					}
					continue
				}
				if firstOf(l, a) != firstOf(l, b) {
					if lo != -far || hi != far || e != api.OK {
						t.Fatal(l, a, b, lo, hi, e)
					}
					continue
				}
				has := map[int]bool{}
				for _, years := range found {
					has[years[b]-years[a]] = true
				}
				for n := -2 * farthest; n <= 2*farthest; n++ {
					if has[n] != (lo <= n && n <= hi) || e != api.OK {
						t.Fatal(l, a, b, n, lo, hi, e)
					}
				}
			}
		}
	}
}

// P2.4: the chains of the greatest numbers: the shortest, and of these the first one.
func TestMost(t *testing.T) {
	ties := []api.Claim{claim(1, 2, 0, 3, 1), claim(2, 3, 0, 4, 1), claim(1, 3, 0, 7, 1), claim(1, 3, 0, 7, 1), claim(3, 1, -7, 0, 1), claim(2, 3, 0, 4, 1)}
	doubled := []api.Claim{claim(4, 3, -5, 0, 1), claim(2, 3, 0, 1, 1), claim(1, 2, 0, 1, 1), claim(1, 2, 0, 1, 1), claim(3, 4, -9, 5, 1)}
	for _, c := range []struct {
		l          []api.Claim
		a, b, most int
		chain      []api.Step
	}{
		{example(), 0, 9, 19, []api.Step{ahead(0), ahead(1), ahead(2)}},
		{example(), 9, 0, -14, []api.Step{back(3)}},
		{example(), 9, 6, 1, []api.Step{back(3), ahead(0), ahead(1)}},
		{example(), 6, 5, -3, []api.Step{back(1)}},
		{example(), 0, 0, 0, nil}, {example(), 9, 9, 0, nil}, {apart(), 7, 7, 0, nil},
		{apart(), 2, 7, -1, []api.Step{back(4)}}, {apart(), 7, 2, 4, []api.Step{ahead(4)}},
		{ties, 1, 3, 7, []api.Step{ahead(2)}}, {ties[:2], 1, 3, 7, []api.Step{ahead(0), ahead(1)}}, {ties[4:], 1, 3, 7, []api.Step{back(0)}}, {ties, 2, 3, 4, []api.Step{ahead(1)}},
		{doubled, 1, 4, 7, []api.Step{ahead(2), ahead(1), back(0)}},
		{[]api.Claim{claim(1, 2, 4, 4, 1), claim(2, 1, -4, -4, 1)}, 1, 2, 4, []api.Step{ahead(0)}},
		{[]api.Claim{claim(2, 1, -4, -4, 1), claim(1, 2, 4, 4, 1)}, 1, 2, 4, []api.Step{back(0)}},
	} {
		if n, chain, e := span.Most(c.l, c.a, c.b); n != c.most || !slices.Equal(chain, c.chain) || e != api.OK {
			t.Error(c, n, chain, e)
		}
	}
	n, chain, e := span.Most(chainOf(64, -100000, 100000), 64, 1)
	if n != 6300000 || len(chain) != 63 || chain[0] != back(62) || chain[62] != back(0) || e != api.OK {
		t.Error(n, chain, e)
	}
}

// P2.4, P2.9: Most's chain is the least one, by bound, number of steps and steps, of all chains.
func TestMostIsLeast(t *testing.T) {
	d := dice(42)
	tried := 0
	for range 400 {
		l := someList(d)
		if len(all(l)) == 0 {
			continue
		}
		for _, a := range marksIn(l) {
			for _, b := range marksIn(l) {
				if a == b || firstOf(l, a) != firstOf(l, b) {
					continue
				}
				n, chain, e := span.Most(l, a, b)
				from, to, bound, f := span.Walk(l, chain)
				if e != api.OK || f != api.OK || from != a || to != b || bound != n {
					t.Fatal(l, a, b, n, chain, e, f)
				}
				chains := chainsFrom(l, a, b, 4)
				if least := slices.MinFunc(chains, func(x, y []api.Step) int { return byBound(l, x, y) }); !slices.Equal(chain, least) {
					t.Fatal(l, a, b, chain, least)
				}
				tried++
			}
		}
	}
	if tried < 500 {
		t.Error("too little was tried", tried)
	}
}

// chainsFrom has all chains of at most so many steps from a to b, those that turn back, too.
func chainsFrom(l []api.Claim, a, b, steps int) [][]api.Step {
	var found [][]api.Step
	var grow func(int, []api.Step)
	grow = func(at int, chain []api.Step) {
		if at == b && len(chain) > 0 {
			found = append(found, slices.Clone(chain))
		}
		if len(chain) == steps {
			return
		}
		for i, c := range l {
			if c.A == at {
				grow(c.B, append(chain, ahead(i)))
			}
			if c.B == at {
				grow(c.A, append(chain, back(i)))
			}
		}
	}
	grow(a, nil)
	return found
}

func byBound(l []api.Claim, x, y []api.Step) int {
	_, _, n, _ := span.Walk(l, x)
	_, _, m, _ := span.Walk(l, y)
	return cmp.Or(cmp.Compare(n, m), cmp.Compare(len(x), len(y)), slices.CompareFunc(x, y, byStep))
}

func byStep(s, t api.Step) int {
	number := map[bool]int{false: 0, true: 1}
	return cmp.Or(cmp.Compare(s.Claim, t.Claim), cmp.Compare(number[s.Back], number[t.Back]))
}

// P2.9: no chain, however it turns, shows less than Most.
func TestNoChainShowsLess(t *testing.T) {
	d := dice(43)
	for range 200 {
		l := someList(d)
		if len(all(l)) == 0 {
			continue
		}
		at := l[0].A
		var chain []api.Step
		for range 1 + d.IntN(30) {
			options := stepsFrom(l, at)
			next := options[d.IntN(len(options))]
			chain = append(chain, next...)
			_, at, _, _ = span.Walk(l, chain)
		}
		from, to, bound, e := span.Walk(l, chain)
		n, _, f := span.Most(l, from, to)
		if e != api.OK || f != api.OK || bound < n {
			t.Fatal(l, chain, bound, n, e, f)
		}
	}
}

// stepsFrom has the chains of one step from a mark.
func stepsFrom(l []api.Claim, at int) [][]api.Step {
	var found [][]api.Step
	for _, b := range marksIn(l) {
		found = append(found, chainsFrom(l, at, b, 1)...)
	}
	return found
}

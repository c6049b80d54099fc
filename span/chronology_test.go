package span_test

import (
	"math/rand/v2"
	"slices"
	"testing"

	"gyttja/api"
	"gyttja/span"
)

func dated(marksAndYears ...int) []api.Dated {
	var d []api.Dated
	for i := 0; i < len(marksAndYears); i += 2 {
		d = append(d, api.Dated{Mark: marksAndYears[i], Year: marksAndYears[i+1]})
	}
	return d
}

// P2.5: chronologies that numbers choose.
func TestChronology(t *testing.T) {
	for _, c := range []struct {
		l     []api.Claim
		picks []int
		want  []api.Dated
	}{
		{nil, nil, nil}, {[]api.Claim{}, []int{3}, nil},
		{example(), nil, dated(0, 0, 5, 10, 6, 13, 9, 14)}, {example(), []int{}, dated(0, 0, 5, 10, 6, 13, 9, 14)},
		{example(), []int{2, 7, -1}, dated(0, 0, 5, 12, 6, 15, 9, 19)},
		{example(), []int{1}, dated(0, 0, 5, 11, 6, 14, 9, 15)},
		{example(), []int{-2, 0}, dated(0, 0, 5, 11, 6, 14, 9, 17)},
		{example(), []int{extremes[0], 5, extremes[len(extremes)-1]}, dated(0, 0, 5, 11, 6, 14, 9, 16)},
		{apart(), []int{1, 0, 2, 3}, dated(0, 0, 2, 0, 5, 11, 6, 14, 7, -2, 9, 17)},
		{[]api.Claim{claim(8, 3, 2, 6, 1)}, []int{3}, dated(3, 0, 8, -3)},
	} {
		if d, e := span.Chronology(c.l, c.picks); !slices.Equal(d, c.want) || e != api.OK || !isChronology(c.l, d) {
			t.Error(c, d, e)
		}
	}
	if d, e := span.Chronology(contradiction(), nil); len(d) != 0 || e != api.ErrChronology {
		t.Error(d, e)
	}
	d, e := span.Chronology(chainOf(64, 100000, 100000), []int{5})
	if e != api.OK || !isChronology(chainOf(64, 100000, 100000), d) || d[63].Year != 6300000 {
		t.Error(d, e)
	}
}

// P2.5: each chronology is one that is chosen by the years that are left, mark by mark; numbers choose all of them.
func TestChronologyHasAll(t *testing.T) {
	d := dice(51)
	for range 200 {
		l := someList(d)
		found := all(l)
		if len(found) == 0 || len(found) > 200 {
			continue
		}
		for _, years := range found {
			var want []api.Dated
			var picks []int
			for _, mark := range marksIn(l) {
				if firstOf(l, mark) != mark {
					picks = append(picks, years[mark]-leastYear(found, years, want, mark))
				}
				want = append(want, api.Dated{Mark: mark, Year: years[mark]})
			}
			if got, e := span.Chronology(l, picks); !slices.Equal(got, want) || e != api.OK {
				t.Fatal(l, picks, got, want, e)
			}
		}
	}
}

// leastYear is the least year of a mark in those chronologies that have the years of the marks ahead of it.
func leastYear(found []map[int]int, years map[int]int, ahead []api.Dated, mark int) int {
	least := far
	for _, other := range found {
		if !slices.ContainsFunc(ahead, func(x api.Dated) bool { return other[x.Mark] != years[x.Mark] }) {
			least = min(least, other[mark])
		}
	}
	return least
}

// P2.5: years that are a chronology, and those that are none.
func TestCheckChronology(t *testing.T) {
	floating := []api.Claim{claim(3, 5, 10, 12, 1)}
	for _, c := range []struct {
		l []api.Claim
		d []api.Dated
		e api.Errno
	}{
		{nil, nil, api.OK}, {nil, []api.Dated{}, api.OK}, {nil, dated(0, 0), api.ErrMark},
		{example(), dated(0, 0, 5, 10, 6, 13, 9, 14), api.OK}, {example(), dated(0, 0, 5, 12, 6, 15, 9, 19), api.OK}, {example(), dated(0, 0, 5, 10, 6, 13, 9, 17), api.OK},
		{example(), dated(0, 0, 5, 10, 6, 13, 9, 13), api.ErrYear}, {example(), dated(0, 0, 5, 12, 6, 15, 9, 20), api.ErrYear}, {example(), dated(0, 0, 5, 10, 6, 14, 9, 14), api.ErrYear},
		{example(), dated(0, 0, 5, 9, 6, 12, 9, 14), api.ErrYear}, {example(), dated(0, 0, 5, 13, 6, 16, 9, 17), api.ErrYear}, {example(), dated(0, 1, 5, 11, 6, 14, 9, 15), api.ErrYear},
		{example(), dated(0, 0, 5, 10, 6, 13), api.ErrMark}, {example(), nil, api.ErrMark}, {example(), dated(0, 0, 5, 10, 6, 13, 9, 14, 10, 0), api.ErrMark}, {example(), dated(0, 0, 6, 13, 5, 10, 9, 14), api.ErrMark},
		{example(), dated(0, 0, 5, 10, 7, 13, 9, 14), api.ErrMark}, {example(), dated(0, 0, 5, 10, 5, 10, 9, 14), api.ErrMark}, {example(), dated(5, 10, 6, 13, 9, 14), api.ErrMark},
		{example(), dated(0, 1, 5, 0, 6, 0, 8, 0), api.ErrMark}, {example(), dated(0, far+1, 5, 0), api.ErrMark},
		{contradiction(), dated(0, 0, 5, 10, 6, 13, 9, 14), api.ErrYear},
		{floating, dated(3, 0, 5, 10), api.OK}, {floating, dated(3, -77, 5, -65), api.OK}, {floating, dated(3, 0, 5, 9), api.ErrYear},
		{floating, dated(3, far-10, 5, far), api.OK}, {floating, dated(3, -far, 5, -far+12), api.OK}, {floating, dated(3, far-9, 5, far+1), api.ErrYear}, {floating, dated(3, -far-1, 5, -far+10), api.ErrYear},
		{floating, dated(3, extremes[len(extremes)-1], 5, extremes[0]+9), api.ErrYear}, {floating, dated(3, extremes[0], 5, extremes[0]), api.ErrYear},
		{apart(), dated(0, 0, 2, -9, 5, 10, 6, 13, 7, -10, 9, 14), api.OK}, {apart(), dated(0, 0, 2, -9, 5, 10, 6, 13, 7, -9, 9, 14), api.ErrYear},
	} {
		if e := span.CheckChronology(c.l, c.d); e != c.e {
			t.Error(c, e)
		}
	}
}

// P2.5: CheckChronology accepts what is a chronology, and nothing else.
func TestCheckChronologyOfSome(t *testing.T) {
	d := dice(52)
	right := 0
	for range 3000 {
		l := someList(d)
		years, e := span.Chronology(l, []int{d.IntN(9), d.IntN(9)})
		if e != api.OK {
			continue
		}
		years[d.IntN(len(years))].Year += d.IntN(3) - 1
		ok := isChronology(l, years)
		if ok != (span.CheckChronology(l, years) == api.OK) {
			t.Fatal(l, years, ok)
		}
		if ok {
			right++
		}
	}
	if right < 100 {
		t.Error("too little was tried", right)
	}
}

// P2.5, P2.7: each number within Bounds is attained, and no other.
func TestAttain(t *testing.T) {
	d := dice(53)
	lists := [][]api.Claim{example(), apart(), {claim(7, 2, 1, 4, 9), claim(2, 0, -3, 5, 1)}}
	for range 200 {
		lists = append(lists, someList(d))
	}
	for _, l := range lists {
		for _, a := range marksIn(l) {
			for _, b := range marksIn(l) {
				lo, hi, e := span.Bounds(l, a, b)
				if e != api.OK || hi == far {
					continue
				}
				for n := lo - 2; n <= hi+2; n++ {
					got, e := span.Attain(l, a, b, n)
					if n < lo || n > hi {
						if len(got) != 0 || e != api.ErrYear {
							t.Fatal(l, a, b, n, got, e)
						}
						continue
					}
					if e != api.OK || !isChronology(l, got) || yearOf(got, b)-yearOf(got, a) != n {
						t.Fatal(l, a, b, n, got, e)
					}
				}
			}
		}
	}
}

// P2.5: Attain at the limits.
func TestAttainLimits(t *testing.T) {
	for _, n := range extremes {
		want := map[bool]api.Errno{true: api.OK, false: api.ErrYear}
		if d, e := span.Attain(example(), 5, 5, n); e != want[n == 0] || (len(d) > 0) != (n == 0) {
			t.Error(n, d, e)
		}
		if d, e := span.Attain(example(), 0, 9, n); len(d) != 0 || e != api.ErrYear {
			t.Error(n, d, e)
		}
	}
	for _, n := range []int{-6300000, 6300000} {
		l := append(chainOf(63, -100000, 100000), claim(63, 0, -100000, 100000, 1))
		d, e := span.Attain(l, 1, 0, n)
		if e != api.OK || !isChronology(l, d) || yearOf(d, 1) != -n {
			t.Error(n, d, e)
		}
	}
}

// P2.5: years that are fixed, and chronologies that have them.
func TestExtend(t *testing.T) {
	floating := []api.Claim{claim(3, 5, 10, 12, 1), claim(5, 8, 0, 2, 1)}
	for _, c := range []struct {
		l     []api.Claim
		fixed []api.Dated
		e     api.Errno
	}{
		{nil, nil, api.OK}, {nil, dated(0, 0), api.ErrMark},
		{example(), nil, api.OK}, {example(), dated(0, 0), api.OK}, {example(), dated(5, 12, 9, 14), api.OK}, {example(), dated(0, 0, 5, 11, 6, 14, 9, 18), api.OK}, {apart(), dated(2, 77), api.OK}, {apart(), dated(5, 12, 7, -400), api.OK},
		{example(), dated(5, 12, 9, 20), api.ErrYear}, {example(), dated(0, 1), api.ErrYear}, {example(), dated(0, -1, 5, 10), api.ErrYear}, {example(), dated(5, 13), api.ErrYear}, {example(), dated(9, 13), api.ErrYear}, {example(), dated(6, 15, 9, 13), api.ErrYear},
		{example(), dated(9, 14, 5, 12), api.ErrMark}, {example(), dated(5, 12, 5, 12), api.ErrMark}, {example(), dated(7, 0), api.ErrMark}, {example(), dated(-1, 0), api.ErrMark}, {example(), dated(5, 99, 7, 0), api.ErrMark}, {example(), dated(0, 5, 5, far, 2049, 0), api.ErrMark},
		{contradiction(), dated(7, 0), api.ErrMark}, {contradiction(), dated(9, 0, 5, 0), api.ErrMark}, {contradiction(), nil, api.ErrChronology}, {contradiction(), dated(0, 1), api.ErrChronology}, {contradiction(), dated(9, far+1), api.ErrChronology},
		{floating, dated(3, api.MaxReach), api.OK}, {floating, dated(3, -api.MaxReach), api.OK}, {floating, dated(8, api.MaxReach), api.OK}, {floating, dated(3, api.MaxReach+1), api.ErrYear}, {floating, dated(8, -api.MaxReach-1), api.ErrYear},
		{floating, dated(3, api.MaxReach-10, 5, api.MaxReach), api.OK}, {floating, dated(3, api.MaxReach-9, 5, api.MaxReach+1), api.ErrYear}, {floating, dated(3, -api.MaxReach, 5, api.MaxReach), api.ErrYear},
		{floating, dated(3, extremes[len(extremes)-1], 5, extremes[0]+9), api.ErrYear}, {floating, dated(3, extremes[0]), api.ErrYear},
		{floating, dated(3, 4, 8, 18), api.OK}, {floating, dated(3, 4, 8, 19), api.ErrYear}, {floating, dated(3, 4, 8, 13), api.ErrYear}, {floating, dated(3, 4, 8, 14), api.OK},
	} {
		d, e := span.Extend(c.l, c.fixed)
		if e != c.e || e != api.OK && len(d) != 0 {
			t.Error(c, d, e)
		}
		if e == api.OK && !hasYears(c.l, d, c.fixed) {
			t.Error(c, d)
		}
	}
}

// hasYears reports whether years are a chronology that has those of fixed.
func hasYears(l []api.Claim, d, fixed []api.Dated) bool {
	return isChronology(l, d) && !slices.ContainsFunc(fixed, func(x api.Dated) bool { return yearOf(d, x.Mark) != x.Year })
}

// P2.8: years that break no bound are those of some chronology; others are those of none.
func TestExtendIsExact(t *testing.T) {
	d := dice(54)
	count := map[api.Errno]int{}
	for range 2000 {
		l := someList(d)
		found := all(l)
		if len(found) == 0 {
			continue
		}
		fixed := someYears(d, l)
		got, e := span.Extend(l, fixed)
		count[e]++
		if (e == api.OK) != breaksNone(l, fixed) || e != api.OK && (e != api.ErrYear || len(got) != 0) || e == api.OK && !hasYears(l, got, fixed) {
			t.Fatal(l, fixed, got, e)
		}
		if possible := slices.ContainsFunc(found, func(years map[int]int) bool { return fits(l, years, fixed) }); possible != (e == api.OK) {
			t.Fatal(l, fixed, got, e, possible)
		}
	}
	if count[api.OK] < 100 || count[api.ErrYear] < 100 {
		t.Error("too little was tried", count)
	}
}

// someYears fixes some marks of a list near the years of a chronology.
func someYears(d *rand.Rand, l []api.Claim) []api.Dated {
	years, _ := span.Chronology(l, []int{d.IntN(9), d.IntN(9), d.IntN(9)})
	away := d.IntN(3) - 1
	var fixed []api.Dated
	for _, x := range years {
		if d.IntN(2) == 0 {
			x.Year += away * d.IntN(2) * d.IntN(2)
			fixed = append(fixed, x)
		}
	}
	return fixed
}

// breaksNone reports whether years of some marks break no bound between two of them, nor between them and the datum.
func breaksNone(l []api.Claim, fixed []api.Dated) bool {
	if slices.Contains(marksIn(l), 0) {
		fixed = append(dated(0, 0), fixed...)
	}
	for _, x := range fixed {
		for _, y := range fixed {
			lo, hi, _ := span.Bounds(l, x.Mark, y.Mark)
			if y.Year-x.Year < lo || y.Year-x.Year > hi {
				return false
			}
		}
	}
	return true
}

// fits reports whether years, of each part moved as they must be, are those of fixed.
func fits(l []api.Claim, years map[int]int, fixed []api.Dated) bool {
	moved := map[int]int{0: 0}
	for _, x := range fixed {
		part := firstOf(l, x.Mark)
		by, ok := moved[part]
		if ok && x.Year-years[x.Mark] != by {
			return false
		}
		moved[part] = x.Year - years[x.Mark]
	}
	return true
}

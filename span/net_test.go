package span_test

import (
	"math"
	"slices"
	"testing"

	"gyttja/api"
	"gyttja/span"
)

const far = api.Far

// exampleNet is the closure of the example.
func exampleNet() api.Net {
	return api.Net{Marks: []int{0, 5, 6, 9}, Most: [][]int{{0, 12, 15, 19}, {-10, 0, 3, 7}, {-13, -3, 0, 4}, {-14, -2, 1, 0}}}
}

// P2.3: the closure of claims.
func TestClose(t *testing.T) {
	for _, c := range []struct {
		l    []api.Claim
		want api.Net
	}{
		{nil, api.Net{}},
		{[]api.Claim{}, api.Net{}},
		{example(), exampleNet()},
		{[]api.Claim{claim(4, 2, 1, 3, 1)}, api.Net{Marks: []int{2, 4}, Most: [][]int{{0, -1}, {3, 0}}}},
		{
			[]api.Claim{claim(4, 2, 1, 3, 1), claim(0, 3, -100000, 100000, 1)},
			api.Net{Marks: []int{0, 2, 3, 4}, Most: [][]int{{0, far, 100000, far}, {far, 0, far, -1}, {100000, far, 0, far}, {far, 3, far, 0}}},
		},
		{[]api.Claim{claim(1, 2, 0, 9, 1), claim(1, 2, 2, 11, 1), claim(2, 1, -10, -3, 1)}, api.Net{Marks: []int{1, 2}, Most: [][]int{{0, 9}, {-3, 0}}}},
	} {
		if n, e := span.Close(c.l); !sameNet(n, c.want) || e != api.OK || span.CheckNet(n) != api.OK {
			t.Error(c, n, e)
		}
	}
	if n, e := span.Close(contradiction()); !isZero(n) || e != api.ErrChronology {
		t.Error(n, e)
	}
}

// P2.3: the closure of as many marks as may be, with the greatest numbers.
func TestCloseLimits(t *testing.T) {
	for _, years := range []int{-100000, 100000} {
		n, e := span.Close(chainOf(64, years, years))
		if e != api.OK || span.CheckNet(n) != api.OK {
			t.Fatal(e)
		}
		for i := range 64 {
			for j := range 64 {
				if n.Most[i][j] != years*(j-i) {
					t.Fatal(i, j, n.Most[i][j])
				}
			}
		}
	}
}

// P2.3, P2.7: each number of a closure is the greatest one of all chronologies, or Far where no claims tie the marks.
func TestCloseIsExact(t *testing.T) {
	d := dice(31)
	tried := 0
	for range 400 {
		l := someList(d)
		found := all(l)
		n, e := span.Close(l)
		if len(found) == 0 {
			if e != api.ErrChronology || !isZero(n) {
				t.Fatal(l, n, e)
			}
			continue
		}
		if e != api.OK || !slices.Equal(n.Marks, marksIn(l)) || span.CheckNet(n) != api.OK {
			t.Fatal(l, n, e)
		}
		tried++
		for i, a := range n.Marks {
			for j, b := range n.Marks {
				want := -far
				for _, years := range found {
					want = max(want, years[b]-years[a])
				}
				if firstOf(l, a) != firstOf(l, b) {
					want = far
				}
				if n.Most[i][j] != want {
					t.Fatal(l, a, b, n.Most[i][j], want)
				}
			}
		}
	}
	if tried < 100 {
		t.Error("too little was tried", tried)
	}
}

// P2.3: nets that are closed, at the limits too.
func TestCheckNet(t *testing.T) {
	widest, _ := span.Close(chainOf(64, -100000, 100000))
	for _, n := range []api.Net{
		{}, {Marks: []int{}, Most: [][]int{}}, exampleNet(), widest,
		{Marks: []int{0}, Most: [][]int{{0}}}, {Marks: []int{2048}, Most: [][]int{{0}}},
		{Marks: []int{1, 2}, Most: [][]int{{0, far}, {far, 0}}},
		{Marks: []int{1, 2}, Most: [][]int{{0, 40000000}, {-40000000, 0}}},
		{Marks: []int{1, 2}, Most: [][]int{{0, -40000000}, {far, 0}}},
		{Marks: []int{1, 2, 3}, Most: [][]int{{0, far, far}, {far, 0, 3}, {far, -3, 0}}},
		{Marks: []int{1, 2, 3}, Most: [][]int{{0, 5, 40000000}, {far, 0, 40000000}, {far, far, 0}}},
	} {
		if e := span.CheckNet(n); e != api.OK {
			t.Error(n, e)
		}
	}
}

// notClosed are nets that are not closed.
func notClosed() []api.Net {
	tooWide := api.Net{Marks: make([]int, 65), Most: make([][]int, 65)}
	for i := range 65 {
		tooWide.Marks[i] = i
		tooWide.Most[i] = make([]int, 65)
	}
	list := []api.Net{
		tooWide,
		{Marks: []int{1}}, {Most: [][]int{{0}}}, {Most: [][]int{nil}}, {Marks: []int{1}, Most: [][]int{{}}}, {Marks: []int{1}, Most: [][]int{{0, 0}}},
		{Marks: []int{1, 2}, Most: [][]int{{0, 1}}}, {Marks: []int{1, 2}, Most: [][]int{{0, 1}, {0}}}, {Marks: []int{1}, Most: [][]int{{0}, {0}}}, {Marks: []int{1, 2}, Most: [][]int{{0, 1}, {0, 0, 0}}},
		{Marks: []int{-1}, Most: [][]int{{0}}}, {Marks: []int{2049}, Most: [][]int{{0}}},
		{Marks: []int{2, 1}, Most: [][]int{{0, 0}, {0, 0}}}, {Marks: []int{2, 2}, Most: [][]int{{0, 0}, {0, 0}}}, {Marks: []int{-1, 2}, Most: [][]int{{0, 0}, {0, 0}}},
		{Marks: []int{math.MaxInt, math.MinInt}, Most: [][]int{{0, 0}, {0, 0}}},
		{Marks: []int{1}, Most: [][]int{{1}}}, {Marks: []int{1}, Most: [][]int{{-1}}}, {Marks: []int{1}, Most: [][]int{{far}}},
		{Marks: []int{1, 2}, Most: [][]int{{0, 40000001}, {far, 0}}}, {Marks: []int{1, 2}, Most: [][]int{{0, -40000001}, {far, 0}}},
		{Marks: []int{1, 2}, Most: [][]int{{0, far - 1}, {far, 0}}}, {Marks: []int{1, 2}, Most: [][]int{{0, far + 1}, {far, 0}}}, {Marks: []int{1, 2}, Most: [][]int{{0, -far}, {far, 0}}},
		{Marks: []int{1, 2}, Most: [][]int{{0, math.MinInt}, {math.MinInt, 0}}}, {Marks: []int{1, 2}, Most: [][]int{{0, math.MaxInt}, {math.MaxInt, 0}}},
		{Marks: []int{1, 2}, Most: [][]int{{0, 3}, {-4, 0}}}, {Marks: []int{1, 2}, Most: [][]int{{0, -4}, {3, 0}}},
		{Marks: []int{1, 2, 3}, Most: [][]int{{0, 5, far}, {far, 0, 5}, {far, far, 0}}},
		{Marks: []int{1, 2, 3}, Most: [][]int{{0, 5, 11}, {far, 0, 5}, {far, far, 0}}},
	}
	// These numbers of the example's closure come from others; the rest would be those of other claims.
	for _, at := range [][2]int{{0, 0}, {1, 1}, {2, 2}, {3, 3}, {0, 1}, {0, 2}, {0, 3}, {1, 0}, {1, 3}, {2, 0}, {2, 3}, {3, 1}, {3, 2}} {
		n := exampleNet()
		n.Most[at[0]][at[1]]++
		list = append(list, n)
	}
	return list
}

// P2.3: nets that are not closed; Grow takes none of them, and says so first.
func TestNotClosed(t *testing.T) {
	for _, n := range notClosed() {
		if e := span.CheckNet(n); e != api.ErrNet {
			t.Error(n, e)
		}
		for _, c := range []api.Claim{claim(1, 2, 0, 0, 1), {}} {
			if m, e := span.Grow(n, c); !isZero(m) || e != api.ErrNet {
				t.Error(n, m, e)
			}
		}
	}
}

// P2.3: a net with one more claim.
func TestGrow(t *testing.T) {
	pair := api.Net{Marks: []int{2, 4}, Most: [][]int{{0, 7}, {-3, 0}}}
	for _, c := range []struct {
		n    api.Net
		c    api.Claim
		want api.Net
	}{
		{api.Net{}, claim(9, 7, 1, 2, 5), api.Net{Marks: []int{7, 9}, Most: [][]int{{0, -1}, {2, 0}}}},
		{pair, claim(2, 4, -9, 9, 5), pair},
		{pair, claim(2, 4, 3, 7, 5), pair},
		{pair, claim(2, 4, 4, 6, 5), api.Net{Marks: []int{2, 4}, Most: [][]int{{0, 6}, {-4, 0}}}},
		{pair, claim(4, 2, -6, -4, 5), api.Net{Marks: []int{2, 4}, Most: [][]int{{0, 6}, {-4, 0}}}},
		{pair, claim(4, 2, -100000, -7, 5), api.Net{Marks: []int{2, 4}, Most: [][]int{{0, 7}, {-7, 0}}}},
		{pair, claim(3, 4, 1, 2, 5), api.Net{Marks: []int{2, 3, 4}, Most: [][]int{{0, 6, 7}, {-1, 0, 2}, {-3, -1, 0}}}},
		{pair, claim(0, 9, 1, 2, 5), api.Net{Marks: []int{0, 2, 4, 9}, Most: [][]int{{0, far, far, 2}, {far, 0, 7, far}, {far, -3, 0, far}, {-1, far, far, 0}}}},
		{api.Net{Marks: []int{1, 2}, Most: [][]int{{0, far}, {5, 0}}}, claim(1, 2, 0, 100, 1), api.Net{Marks: []int{1, 2}, Most: [][]int{{0, 100}, {0, 0}}}},
	} {
		if n, e := span.Grow(c.n, c.c); !sameNet(n, c.want) || e != api.OK || span.CheckNet(n) != api.OK {
			t.Error(c, n, e)
		}
	}
}

// P2.3, R1: the errors of Grow in their order.
func TestGrowErrors(t *testing.T) {
	widest, _ := span.Close(chainOf(64, 0, 100000))
	wide, _ := span.Close(chainOf(63, 0, 100000))
	high := api.Net{Marks: []int{1, 2}, Most: [][]int{{0, 40000000}, {far, 0}}}
	low := api.Net{Marks: []int{1, 2, 3}, Most: [][]int{{0, 5, -39999995}, {3, 0, -40000000}, {far, far, 0}}}
	for _, c := range []struct {
		n api.Net
		c api.Claim
		e api.Errno
	}{
		{widest, claim(64, 65, 0, 0, 1), api.ErrLong}, {widest, claim(100, 101, 0, 0, 1), api.ErrLong}, {wide, claim(100, 101, 0, 0, 1), api.ErrLong},
		{wide, claim(63, 64, 0, 0, 1), api.OK}, {widest, claim(1, 64, 0, 9, 1), api.OK},
		{widest, claim(64, 65, 1, 0, 1), api.ErrClaim}, {widest, claim(64, 2049, 0, 0, 1), api.ErrClaim}, {exampleNet(), claim(0, 9, 20, 19, 1), api.ErrClaim}, {exampleNet(), api.Claim{}, api.ErrClaim},
		{exampleNet(), claim(0, 9, 20, 30, 5), api.ErrChronology}, {exampleNet(), claim(0, 9, 19, 30, 5), api.OK}, {exampleNet(), claim(9, 0, -30, -20, 5), api.ErrChronology},
		{exampleNet(), claim(0, 9, 3, 13, 5), api.ErrChronology}, {exampleNet(), claim(0, 9, 3, 14, 5), api.OK}, {exampleNet(), claim(9, 0, -13, -3, 5), api.ErrChronology},
		{high, claim(2, 3, 0, 1, 5), api.ErrLong}, {high, claim(2, 3, -1, 0, 5), api.OK}, {high, claim(3, 2, 0, 1, 5), api.OK}, {high, claim(3, 2, -1, 1, 5), api.ErrLong}, {high, claim(3, 1, -1, 1, 5), api.ErrLong},
		{low, claim(1, 2, -3, -1, 5), api.ErrLong}, {low, claim(1, 2, -10, -10, 5), api.ErrChronology}, {low, claim(1, 2, -3, 0, 5), api.OK}, {low, claim(3, 4, -1, -1, 5), api.ErrLong},
	} {
		n, e := span.Grow(c.n, c.c)
		if e != c.e || (e == api.OK) != (span.CheckNet(n) == api.OK && len(n.Marks) > 0) || e != api.OK && !isZero(n) {
			t.Error(c.c, e)
		}
	}
}

// P2.10: a closure that grows by a claim is the closure of all claims, if neither has an error; more claims widen no bound.
func TestGrowIsClose(t *testing.T) {
	d := dice(32)
	grown, broken := 0, 0
	for range 600 {
		l := someList(d)
		part := l[:len(l)-1]
		n, e := span.Close(part)
		if e != api.OK {
			continue
		}
		whole, e := span.Close(l)
		got, f := span.Grow(n, l[len(l)-1])
		if e != f || !sameNet(got, whole) {
			t.Fatal(l, got, whole, e, f)
		}
		if e != api.OK {
			broken++
			continue
		}
		grown++
		for i, a := range n.Marks {
			for j, b := range n.Marks {
				if whole.Most[slices.Index(whole.Marks, a)][slices.Index(whole.Marks, b)] > n.Most[i][j] {
					t.Fatal(l, a, b)
				}
			}
		}
	}
	if grown < 100 || broken < 50 {
		t.Error("too little was tried", grown, broken)
	}
}

// P2.10: Grow, claim by claim, of many claims of many marks.
func TestGrowClaimByClaim(t *testing.T) {
	d := dice(33)
	for range 5 {
		years := make([]int, 64)
		for i := range years {
			years[i] = d.IntN(50000)
		}
		var l []api.Claim
		n := api.Net{}
		for range 200 {
			a := d.IntN(64)
			b := (a + 1 + d.IntN(63)) % 64
			c := claim(a+1, b+1, years[b]-years[a]-d.IntN(900), years[b]-years[a]+d.IntN(900), 1)
			l = append(l, c)
			var e api.Errno
			if n, e = span.Grow(n, c); e != api.OK {
				t.Fatal(l, e)
			}
		}
		if whole, e := span.Close(l); !sameNet(n, whole) || e != api.OK {
			t.Fatal(l, e)
		}
	}
}

// P2.10: the closure does not depend on the order of the claims.
func TestCloseInAnyOrder(t *testing.T) {
	d := dice(34)
	for range 300 {
		l := someList(d)
		n, e := span.Close(l)
		m, f := span.Close(shuffled(d, l))
		if e != f || !sameNet(n, m) {
			t.Fatal(l, n, m, e, f)
		}
	}
}

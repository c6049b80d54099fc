package lay_test

import (
	"slices"
	"testing"

	"gyttja/api"
	"gyttja/lay"
)

// P3.1: the chapter's examples.
func TestExamples(t *testing.T) {
	w := exampleWeave()
	if n, e := lay.Count(w); n != 2 || e != api.OK {
		t.Error(n, e)
	}
	for _, c := range []struct {
		n    int
		want []int
		e    api.Errno
	}{{0, []int{4, 1}, api.OK}, {1, []int{6, 6, 3, 1}, api.OK}, {2, nil, api.ErrNone}, {-1, nil, api.ErrNone}, {extremes[0], nil, api.ErrNone}, {extremes[len(extremes)-1], nil, api.ErrNone}} {
		if j, e := lay.Nth(w, c.n); !slices.Equal(j.Ops, c.want) || e != c.e {
			t.Error(c, j, e)
		}
	}
	for _, c := range []struct {
		l    []int
		want int
		e    api.Errno
	}{
		{[]int{4, 1}, 0, api.OK}, {[]int{6, 6, 3, 1}, 1, api.OK},
		{nil, 0, api.ErrJoin}, {[]int{}, 0, api.ErrJoin}, {[]int{4}, 0, api.ErrJoin}, {[]int{4, 1, 1}, 0, api.ErrJoin}, {[]int{6, 6, 3}, 0, api.ErrJoin}, {[]int{6, 6, 1, 7}, 0, api.ErrJoin}, {[]int{5, 1}, 0, api.ErrJoin}, {[]int{7}, 0, api.ErrJoin}, {[]int{0, 4, 1}, 0, api.ErrJoin}, {[]int{4, 1, 0}, 0, api.ErrJoin}, {extremes, 0, api.ErrJoin},
	} {
		if n, e := lay.Rank(w, api.Join{Ops: c.l}); n != c.want || e != c.e {
			t.Error(c, n, e)
		}
	}
	if j, e := lay.Best(w); !slices.Equal(j.Ops, []int{4, 1}) || e != api.OK {
		t.Error(j, e)
	}
	may, e := lay.May(w)
	sure, f := lay.Sure(w)
	if !slices.Equal(may, []api.Pair{{I: 0, J: 0}, {I: 1, J: 0}, {I: 2, J: 1}}) || !slices.Equal(sure, []api.Pair{{I: 2, J: 1}}) || e != api.OK || f != api.OK {
		t.Error(may, sure, e, f)
	}
}

// P3.1, R3: a weave without joins.
func TestNoJoins(t *testing.T) {
	for _, w := range []api.Weave{{}, {Knots: []api.Knot{}, Threads: []api.Thread{}}} {
		if n, e := lay.Count(w); n != 0 || e != api.OK {
			t.Error(n, e)
		}
		for function, c := range outcomes(w, 0) {
			want := map[string]api.Errno{"Nth": api.ErrNone, "Rank": api.ErrJoin, "Choose": api.ErrNone, "Best": api.ErrNone, "Avoid": api.ErrNone, "With": api.ErrNone}[function]
			if c.e != want || !c.zero {
				t.Error(function, c)
			}
		}
	}
}

// P3.3: the joins of a weave, one by one: their numbers are inverse to them, and in order.
func TestNumbers(t *testing.T) {
	d := dice(51)
	tried := 0
	for range 400 {
		w := someWeave(d)
		joins := joinsOf(w)
		if n, e := lay.Count(w); n != len(joins) || e != api.OK {
			t.Fatal(w, n, e)
		}
		var last []int
		for i, l := range joins {
			j, e := lay.Nth(w, i)
			n, f := lay.Rank(w, j)
			if !slices.Equal(j.Ops, l) || n != i || e != api.OK || f != api.OK || slices.Compare(last, j.Ops) >= 0 {
				t.Fatal(w, i, j, e, n, f)
			}
			last = j.Ops
		}
		for _, i := range []int{-1, len(joins), len(joins) + 1} {
			if j, e := lay.Nth(w, i); len(j.Ops) != 0 || e != api.ErrNone {
				t.Fatal(w, i, j, e)
			}
		}
		tried += len(joins)
	}
	if tried < 2000 {
		t.Error("too little was tried", tried)
	}
}

// P3.1: Rank tells of each list whether it is a join.
func TestRankOfAllLists(t *testing.T) {
	d := dice(52)
	for range 40 {
		w := someWeave(d)
		if len(w.Knots) == 0 {
			continue
		}
		end := w.Knots[len(w.Knots)-1]
		joins := joinsOf(w)
		for _, l := range allLists(end.I, end.J) {
			for _, l := range [][]int{l, l[:len(l)-1], append(slices.Clone(l), 1+d.IntN(7))} {
				i := slices.IndexFunc(joins, func(j []int) bool { return slices.Equal(j, l) })
				n, e := lay.Rank(w, api.Join{Ops: l})
				if i >= 0 && (n != i || e != api.OK) || i < 0 && (n != 0 || e != api.ErrJoin) {
					t.Fatal(w, l, n, e)
				}
			}
		}
	}
}

// R10: threads are chosen by numbers that are taken one after the other, also where there is one thread only.
func TestChoose(t *testing.T) {
	w := exampleWeave()
	for _, c := range []struct{ picks, want []int }{
		{nil, []int{4, 1}}, {[]int{}, []int{4, 1}}, {[]int{0}, []int{4, 1}}, {[]int{1}, []int{6, 6, 3, 1}}, {[]int{-1}, []int{6, 6, 3, 1}}, {[]int{-2, 1}, []int{4, 1}}, {[]int{7, 0, 5}, []int{6, 6, 3, 1}}, {extremes[:1], []int{4, 1}}, {extremes[len(extremes)-1:], []int{6, 6, 3, 1}},
	} {
		if j, e := lay.Choose(w, c.picks); !slices.Equal(j.Ops, c.want) || e != api.OK {
			t.Error(c, j, e)
		}
	}
	// The second number is taken at the knot that has one thread only: the third one chooses between the last two.
	w = api.Weave{
		Knots:   []api.Knot{{}, {I: 1}, {Phase: 1, I: 2, J: 1, Both: 1}, {Phase: 1, I: 3, J: 1, Edits: 1, Both: 1}, {Phase: 2, I: 3, J: 1, Both: 1}},
		Threads: []api.Thread{{From: 0, To: 1, Op: hangX}, {From: 1, To: 2, Op: both}, {From: 2, To: 3, Op: onlyX}, {From: 2, To: 4, Op: hangX}},
	}
	for _, c := range []struct{ picks, want []int }{
		{[]int{0, 0, 1}, []int{6, 1, 6}}, {[]int{1, 1, 0}, []int{6, 1, 2}}, {[]int{1, 0}, []int{6, 1, 6}}, {[]int{0, 1}, []int{6, 1, 2}},
	} {
		if j, e := lay.Choose(w, c.picks); !slices.Equal(j.Ops, c.want) || e != api.OK {
			t.Error(c, j, e)
		}
	}
}

// R10: Choose of any weave follows the numbers.
func TestChooseOfSomeWeaves(t *testing.T) {
	d := dice(53)
	for range 400 {
		w := someWeave(d)
		picks := []int{d.IntN(20) - 10, d.IntN(5), d.IntN(5)}[:1+d.IntN(3)]
		j, e := lay.Choose(w, picks)
		if len(w.Knots) == 0 {
			if e != api.ErrNone {
				t.Fatal(e)
			}
			continue
		}
		at, taken := 0, 0
		var want []int
		for {
			var threads []api.Thread
			for _, x := range w.Threads {
				if x.From == at {
					threads = append(threads, x)
				}
			}
			if len(threads) == 0 {
				break
			}
			p := picks[taken%len(picks)] % len(threads)
			x := threads[(p+len(threads))%len(threads)]
			want = append(want, x.Op)
			at = x.To
			taken++
		}
		if !slices.Equal(j.Ops, want) || e != api.OK {
			t.Fatal(w, picks, j, want, e)
		}
	}
}

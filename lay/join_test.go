package lay_test

import (
	"slices"
	"testing"

	"gyttja/api"
	"gyttja/lay"
)

// P3.1: joins of the chapter's pieces.
func TestCheckJoin(t *testing.T) {
	x, y, r := example()
	loose := api.Rule{Tol: 100000, Edits: 6, Overlap: 1}
	for _, c := range []struct {
		r api.Rule
		l []int
		e api.Errno
	}{
		{r, []int{twoX, both}, api.OK}, {r, []int{hangX, hangX, onlyY, both}, api.OK},
		{r, []int{hangX, hangX, both, hangY}, api.ErrJoin}, {r, nil, api.ErrJoin}, {r, []int{}, api.ErrJoin}, {r, []int{twoX}, api.ErrJoin}, {r, []int{twoX, both, both}, api.ErrJoin}, {r, []int{twoX, both, hangX}, api.ErrJoin},
		{api.Rule{Overlap: 1}, []int{twoX, both}, api.ErrJoin}, {api.Rule{Edits: 1, Overlap: 2}, []int{twoX, both}, api.ErrJoin},
		{loose, []int{hangX, hangX, both, hangY}, api.OK}, {loose, []int{hangY, both, hangX, hangX}, api.OK}, {loose, []int{both, both, hangX}, api.OK}, {loose, []int{hangX, both, both}, api.OK}, {loose, []int{hangX, both, onlyY, hangX}, api.OK},
		{loose, []int{both, hangX, both}, api.ErrJoin}, {loose, []int{hangX, hangY, both, onlyX}, api.ErrJoin}, {loose, []int{hangY, hangX, both, onlyX}, api.ErrJoin}, {loose, []int{both, hangX, hangX, hangY}, api.ErrJoin}, {loose, []int{both, hangY, hangX, hangX}, api.ErrJoin},
		{loose, []int{hangX, hangX, hangX, hangY, hangY}, api.ErrJoin}, {loose, []int{hangX, hangX, hangX, onlyY, onlyY}, api.ErrJoin}, {loose, []int{onlyX, onlyX, onlyX, onlyY, onlyY}, api.ErrJoin}, {loose, []int{onlyX, onlyX, both, onlyY}, api.OK},
		{loose, []int{both, both, 0, hangX}, api.ErrJoin}, {loose, []int{both, both, hangX, 0}, api.ErrJoin}, {loose, []int{both, both, 8}, api.ErrJoin}, {loose, []int{-1, both, both, hangX}, api.ErrJoin}, {loose, extremes, api.ErrJoin},
		{api.Rule{Tol: 100000, Edits: 3, Overlap: 1}, []int{onlyX, onlyX, both, onlyY}, api.OK}, {api.Rule{Tol: 100000, Edits: 2, Overlap: 1}, []int{onlyX, onlyX, both, onlyY}, api.ErrJoin},
	} {
		if e := lay.CheckJoin(x, y, c.r, api.Join{Ops: c.l}); e != c.e {
			t.Error(c, e)
		}
	}
	if e := lay.CheckJoin(alike(24), alike(24), api.Rule{Overlap: 24}, api.Join{Ops: slices.Repeat([]int{both}, 24)}); e != api.OK {
		t.Error(e)
	}
}

// P3.1: of all lists, CheckJoin accepts exactly those that the chapter's words allow; also with operations too few or too many.
func TestCheckJoinOfAllLists(t *testing.T) {
	d := dice(21)
	accepted := 0
	for range 120 {
		x, y, r := somePiece(d, 3), somePiece(d, 3), someRule(d)
		for _, l := range allLists(len(x), len(y)) {
			for _, l := range [][]int{l, l[1:], l[:len(l)-1], append(slices.Clone(l), 1+d.IntN(7))} {
				e := lay.CheckJoin(x, y, r, api.Join{Ops: l})
				if want := isAllowed(x, y, r, l); want != (e == api.OK) || !want && e != api.ErrJoin {
					t.Fatal(x, y, r, l, e)
				}
				if e == api.OK {
					accepted++
				}
			}
		}
	}
	if accepted < 500 {
		t.Error("too little was tried", accepted)
	}
}

// P3.1: the edits of any list.
func TestEdits(t *testing.T) {
	for _, c := range []struct {
		l    []int
		want int
	}{
		{nil, 0}, {[]int{}, 0}, {[]int{6, 6, 3, 1}, 1}, {[]int{1, 2, 3, 4, 5, 6, 7}, 4}, {[]int{0, 8, 9, -2, -5}, 0}, {extremes, 1}, {slices.Repeat([]int{2}, 1000), 1000},
	} {
		if n := lay.Edits(api.Join{Ops: c.l}); n != c.want {
			t.Error(c, n)
		}
	}
}

// P3.4: X and Y are exchanged, in any list; twice, it is the list itself.
func TestTurn(t *testing.T) {
	for _, c := range []struct{ l, want []int }{
		{nil, nil}, {[]int{}, nil}, {[]int{4, 1}, []int{5, 1}}, {[]int{1, 2, 3, 4, 5, 6, 7}, []int{1, 3, 2, 5, 4, 7, 6}}, {[]int{0, 8, -2, 9, 2}, []int{0, 8, -2, 9, 3}},
	} {
		if j := lay.Turn(api.Join{Ops: c.l}); !slices.Equal(j.Ops, c.want) {
			t.Error(c, j)
		}
	}
	if j := lay.Turn(lay.Turn(api.Join{Ops: extremes})); !slices.Equal(j.Ops, extremes) {
		t.Error(j)
	}
}

// P3.4: a list is a join of x and y if and only if the turned list is one of y and x.
func TestTurnedJoins(t *testing.T) {
	d := dice(22)
	for range 60 {
		x, y, r := somePiece(d, 3), somePiece(d, 3), someRule(d)
		for _, l := range allLists(len(x), len(y)) {
			turned := lay.Turn(api.Join{Ops: l})
			if e, f := lay.CheckJoin(x, y, r, api.Join{Ops: l}), lay.CheckJoin(y, x, r, turned); e != f {
				t.Fatal(x, y, r, l, e, f)
			}
			if again := lay.Turn(turned); !slices.Equal(again.Ops, l) {
				t.Fatal(l, again)
			}
		}
	}
	long := alike(25)
	if lay.CheckJoin(alike(3), long, api.Rule{}, ops(1)) != lay.CheckJoin(long, alike(3), api.Rule{}, ops(1)) {
		t.Error("errors")
	}
}

// P3.1: years of layers; thicknesses do not matter.
func TestYears(t *testing.T) {
	x, y, _ := example()
	for _, c := range []struct {
		l      []int
		xs, ys []int
	}{
		{[]int{4, 1}, []int{0, 0, 1}, []int{0, 1}},
		{[]int{6, 6, 3, 1}, []int{0, 1, 3}, []int{2, 3}},
		{[]int{6, 6, 1, 7}, []int{0, 1, 2}, []int{2, 3}},
		{[]int{7, 1, 6, 6}, []int{0, 1, 2}, []int{-1, 0}},
		{[]int{3, 3, 2, 2, 2}, []int{0, 1, 2}, []int{-2, -1}},
		{[]int{7, 7, 2, 2, 2}, []int{0, 1, 2}, []int{-2, -1}},
		{[]int{6, 6, 2, 3, 3}, []int{0, 1, 2}, []int{3, 4}},
		{[]int{6, 6, 6, 3, 3}, []int{0, 1, 2}, []int{3, 4}},
		{[]int{6, 6, 6, 3, 7}, []int{0, 1, 2}, []int{3, 4}},
		{[]int{2, 6, 6, 7, 7}, nil, nil},
		{[]int{5, 6, 6}, []int{0, 1, 2}, []int{0, 0}},
		{[]int{6, 6, 5}, []int{0, 1, 2}, []int{2, 2}},
		{[]int{6, 6, 6, 7, 7}, nil, nil}, {[]int{7, 6, 1, 1}, nil, nil}, {[]int{1, 6, 1, 2}, nil, nil}, {[]int{1, 1}, nil, nil}, {[]int{1, 1, 2, 2}, nil, nil}, {[]int{1, 1, 0, 2}, nil, nil}, {[]int{1, 1, 8}, nil, nil}, {nil, nil, nil}, {[]int{}, nil, nil}, {extremes, nil, nil},
	} {
		want := api.OK
		if c.xs == nil {
			want = api.ErrJoin
		}
		if xs, ys, e := lay.Years(x, y, api.Join{Ops: c.l}); !slices.Equal(xs, c.xs) || !slices.Equal(ys, c.ys) || e != want {
			t.Error(c, xs, ys, e)
		}
	}
	for _, bad := range [][]int{nil, {}, {0}, alike(25)} {
		if xs, ys, e := lay.Years(bad, y, ops(1)); len(xs) != 0 || len(ys) != 0 || e != api.ErrPiece {
			t.Error(bad, xs, ys, e)
		}
		if xs, ys, e := lay.Years(x, bad, ops(1)); len(xs) != 0 || len(ys) != 0 || e != api.ErrPiece {
			t.Error(bad, xs, ys, e)
		}
	}
}

// P3.1, P3.8: of all lists, those of the form have years: they do not decrease, are alike for the layers of a pair, and differ for layers that follow each other, unless one operation uses both.
func TestYearsOfAllLists(t *testing.T) {
	tried := 0
	for n := 1; n <= 3; n++ {
		for m := 1; m <= 4; m++ {
			for _, l := range allLists(n, m) {
				xs, ys, e := lay.Years(alike(n), alike(m), api.Join{Ops: l})
				if formed := hasForm(n, m, l); formed != (e == api.OK) || !formed && e != api.ErrJoin {
					t.Fatal(n, m, l, e)
				}
				if e != api.OK {
					continue
				}
				tried++
				if wantX, wantY := yearsIn(l); !slices.Equal(xs, wantX) || !slices.Equal(ys, wantY) || xs[0] != 0 {
					t.Fatal(l, xs, ys)
				}
				checkYears(t, l, xs, ys)
			}
		}
	}
	if tried < 1000 {
		t.Error("too little was tried", tried)
	}
}

func checkYears(t *testing.T, l, xs, ys []int) {
	if !slices.IsSorted(xs) || !slices.IsSorted(ys) {
		t.Fatal(l, xs, ys)
	}
	for _, p := range lay.Pairs(api.Join{Ops: l}) {
		if xs[p.I] != ys[p.J] {
			t.Fatal(l, p, xs, ys)
		}
	}
	x, y := 0, 0
	for _, op := range l {
		a, b, _ := layersOf(op)
		if x > 0 && a > 0 && xs[x-1] == xs[x] || y > 0 && b > 0 && ys[y-1] == ys[y] {
			t.Fatal(l, xs, ys)
		}
		if a == 2 && xs[x] != xs[x+1] || b == 2 && ys[y] != ys[y+1] {
			t.Fatal(l, xs, ys)
		}
		x, y = x+a, y+b
	}
}

// P3.1: the pairs of any list.
func TestPairs(t *testing.T) {
	for _, c := range []struct {
		l    []int
		want []api.Pair
	}{
		{nil, nil}, {[]int{}, nil}, {[]int{2, 3, 6, 7}, nil}, {[]int{0, 8, -1}, nil},
		{[]int{4, 1}, []api.Pair{{I: 0, J: 0}, {I: 1, J: 0}, {I: 2, J: 1}}},
		{[]int{6, 5, 1}, []api.Pair{{I: 1, J: 0}, {I: 1, J: 1}, {I: 2, J: 2}}},
		{[]int{1, 9, 1, 0, 7, 1, -4, 2, 1}, []api.Pair{{I: 0, J: 0}, {I: 1, J: 1}, {I: 2, J: 3}, {I: 4, J: 4}}},
		{[]int{6, 1, 6, 7, 1}, []api.Pair{{I: 1, J: 0}, {I: 3, J: 2}}},
		{extremes, []api.Pair{{I: 0, J: 0}}},
	} {
		if l := lay.Pairs(api.Join{Ops: c.l}); !slices.Equal(l, c.want) {
			t.Error(c, l)
		}
	}
	if l := lay.Pairs(api.Join{Ops: slices.Repeat([]int{both}, 1000)}); len(l) != 1000 || l[999] != (api.Pair{I: 999, J: 999}) {
		t.Error(len(l))
	}
}

// P3.1, P3.8: the pairs of a join are the layers that have one year.
func TestPairsAreYears(t *testing.T) {
	for _, l := range allLists(3, 3) {
		if hasForm(3, 3, l) {
			if pairs := lay.Pairs(api.Join{Ops: l}); !slices.Equal(pairs, pairsIn(l)) {
				t.Fatal(l, pairs)
			}
		}
	}
}

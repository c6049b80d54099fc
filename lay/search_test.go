package lay_test

import (
	"slices"
	"testing"

	"gyttja/api"
	"gyttja/lay"
)

// P3.1: Best is the first one of the joins with the fewest edits.
func TestBest(t *testing.T) {
	d := dice(61)
	later := 0
	for range 500 {
		w := someWeave(d)
		joins := joinsOf(w)
		j, e := lay.Best(w)
		if len(joins) == 0 {
			if len(j.Ops) != 0 || e != api.ErrNone {
				t.Fatal(w, j, e)
			}
			continue
		}
		// MinFunc takes the first one of several.
		want := slices.MinFunc(joins, func(k, l []int) int {
			_, _, a, _ := usedBy(k)
			_, _, b, _ := usedBy(l)
			return a - b
		})
		if !slices.Equal(j.Ops, want) || e != api.OK {
			t.Fatal(w, j, want, e)
		}
		if !slices.Equal(want, joins[0]) {
			later++
		}
	}
	if later < 50 {
		t.Error("too little was tried", later)
	}
}

// P3.5: the pairs of some and of all joins, and the first join without a pair: a pair of some that is none of all is avoided, and no other pair of some.
func TestMaySureAvoid(t *testing.T) {
	d := dice(62)
	sureOnes, others := 0, 0
	for range 500 {
		w := someWeave(d)
		joins := joinsOf(w)
		may, e := lay.May(w)
		sure, f := lay.Sure(w)
		var wantMay, wantSure []api.Pair
		for i := range 5 {
			for j := range 5 {
				p := api.Pair{I: i, J: j}
				having := slices.DeleteFunc(slices.Clone(joins), func(l []int) bool { return !slices.Contains(pairsIn(l), p) })
				if len(having) > 0 {
					wantMay = append(wantMay, p)
				}
				if len(having) > 0 && len(having) == len(joins) {
					wantSure = append(wantSure, p)
				}
				checkAvoid(t, w, joins, p)
			}
		}
		if !slices.Equal(may, wantMay) || !slices.Equal(sure, wantSure) || e != api.OK || f != api.OK {
			t.Fatal(w, may, wantMay, sure, wantSure, e, f)
		}
		for _, p := range may {
			if _, e := lay.Avoid(w, p); (e == api.OK) == slices.Contains(sure, p) {
				t.Fatal(w, p, e, sure)
			}
		}
		sureOnes += len(sure)
		others += len(may) - len(sure)
	}
	if sureOnes < 100 || others < 200 {
		t.Error("too little was tried", sureOnes, others)
	}
}

func checkAvoid(t *testing.T, w api.Weave, joins [][]int, p api.Pair) {
	j, e := lay.Avoid(w, p)
	i := slices.IndexFunc(joins, func(l []int) bool { return !slices.Contains(pairsIn(l), p) })
	if i < 0 && (len(j.Ops) != 0 || e != api.ErrNone) || i >= 0 && (!slices.Equal(j.Ops, joins[i]) || e != api.OK) {
		t.Fatal(w, p, j, e)
	}
}

// P3.1: the joins of the examples without a pair; a pair that no join has is avoided by the first one.
func TestAvoid(t *testing.T) {
	for _, c := range []struct {
		p    api.Pair
		want []int
		e    api.Errno
	}{
		{api.Pair{I: 0, J: 0}, []int{6, 6, 3, 1}, api.OK}, {api.Pair{I: 1, J: 0}, []int{6, 6, 3, 1}, api.OK}, {api.Pair{I: 2, J: 1}, nil, api.ErrNone},
		{api.Pair{I: 2, J: 0}, []int{4, 1}, api.OK}, {api.Pair{I: -1, J: 0}, []int{4, 1}, api.OK}, {api.Pair{I: extremes[0], J: extremes[0]}, []int{4, 1}, api.OK}, {api.Pair{I: 2, J: 24}, []int{4, 1}, api.OK},
	} {
		if j, e := lay.Avoid(exampleWeave(), c.p); !slices.Equal(j.Ops, c.want) || e != c.e {
			t.Error(c, j, e)
		}
	}
}

// P3.1: the offsets of the examples, and of ends of two phases.
func TestOffsets(t *testing.T) {
	for _, c := range []struct {
		w    api.Weave
		want []api.Offset
	}{
		{exampleWeave(), []api.Offset{{XEnd: 1, YTop: 0, YEnd: 1}, {XEnd: 3, YTop: 2, YEnd: 3}}}, {endsOfTwoPhases(), []api.Offset{{XEnd: 1, YTop: 0, YEnd: 0}}}, {api.Weave{}, nil}, {longPath(24), []api.Offset{{XEnd: 23, YTop: 0, YEnd: 23}}},
		{path([]api.Knot{{}, {J: 1}, {Phase: 1, I: 1, J: 2, Both: 1}, {Phase: 2, I: 2, J: 2, Both: 1}}, hangY, both, hangX), []api.Offset{{XEnd: 1, YTop: -1, YEnd: 0}}},
		{path([]api.Knot{{}, {Phase: 1, J: 1, Edits: 1}, {Phase: 1, I: 1, J: 2, Edits: 1, Both: 1}, {Phase: 1, I: 1, J: 3, Edits: 2, Both: 1}}, onlyY, both, onlyY), []api.Offset{{XEnd: 0, YTop: -1, YEnd: 1}}},
		{path([]api.Knot{{}, {J: 1}, {Phase: 1, I: 1, J: 1, Edits: 1}, {Phase: 1, I: 2, J: 2, Edits: 1, Both: 1}}, hangY, onlyX, both), []api.Offset{{XEnd: 1, YTop: -1, YEnd: 1}}},
	} {
		if l, e := lay.Offsets(c.w); !slices.Equal(l, c.want) || e != api.OK || !isWellFormed(c.w) {
			t.Error(c, l, e)
		}
	}
}

// P3.5: the offsets are exactly those of all joins, in order, each once; With tells the first join of each, and of no other one.
func TestOffsetsOfAllJoins(t *testing.T) {
	d := dice(63)
	certain, several := 0, 0
	for range 500 {
		w := someWeave(d)
		joins := joinsOf(w)
		var want []api.Offset
		for _, l := range joins {
			want = append(want, offsetIn(l))
		}
		slices.SortFunc(want, byOffset)
		want = slices.Compact(want)
		offsets, e := lay.Offsets(w)
		if !slices.Equal(offsets, want) || e != api.OK {
			t.Fatal(w, offsets, want, e)
		}
		for range 20 {
			want = append(want, api.Offset{XEnd: d.IntN(7), YTop: d.IntN(9) - 4, YEnd: d.IntN(12) - 4})
		}
		for _, o := range want {
			checkWith(t, w, joins, o)
		}
		if len(offsets) == 1 {
			certain++
		}
		if len(offsets) > 1 {
			several++
		}
	}
	if certain < 50 || several < 50 {
		t.Error("too little was tried", certain, several)
	}
}

func byOffset(o, p api.Offset) int {
	return slices.Compare([]int{o.XEnd, o.YTop, o.YEnd}, []int{p.XEnd, p.YTop, p.YEnd})
}

func checkWith(t *testing.T, w api.Weave, joins [][]int, o api.Offset) {
	j, e := lay.With(w, o)
	i := slices.IndexFunc(joins, func(l []int) bool { return offsetIn(l) == o })
	if i < 0 && (len(j.Ops) != 0 || e != api.ErrNone) || i >= 0 && (!slices.Equal(j.Ops, joins[i]) || e != api.OK) {
		t.Fatal(w, o, j, e)
	}
}

// P3.1: joins with an offset, and numbers that are none.
func TestWith(t *testing.T) {
	for _, c := range []struct {
		o    api.Offset
		want []int
		e    api.Errno
	}{
		{api.Offset{XEnd: 3, YTop: 2, YEnd: 3}, []int{6, 6, 3, 1}, api.OK}, {api.Offset{XEnd: 1, YTop: 0, YEnd: 1}, []int{4, 1}, api.OK},
		{api.Offset{XEnd: 3, YTop: 0, YEnd: 3}, nil, api.ErrNone}, {api.Offset{XEnd: 1, YTop: 2, YEnd: 3}, nil, api.ErrNone}, {api.Offset{XEnd: 3, YTop: 2, YEnd: 1}, nil, api.ErrNone}, {api.Offset{}, nil, api.ErrNone},
	} {
		if j, e := lay.With(exampleWeave(), c.o); !slices.Equal(j.Ops, c.want) || e != c.e {
			t.Error(c, j, e)
		}
	}
	for _, a := range extremes {
		for _, b := range extremes {
			for _, c := range extremes {
				for _, w := range []api.Weave{exampleWeave(), longPath(24)} {
					checkWith(t, w, joinsOf(w), api.Offset{XEnd: a, YTop: b, YEnd: c})
				}
			}
		}
	}
}

package span_test

import (
	"slices"
	"testing"

	"gyttja/api"
	"gyttja/span"
)

// P2.6: sources that contradict each other, and how they are found.
func TestConflict(t *testing.T) {
	two := []api.Claim{claim(1, 2, 1, 1, 5), claim(1, 2, 2, 2, 3), claim(3, 4, 1, 1, 4), claim(3, 4, 2, 2, 2)}
	for _, c := range []struct {
		l    []api.Claim
		want []int
		e    api.Errno
	}{
		{nil, nil, api.ErrNone}, {example(), nil, api.ErrNone}, {apart(), nil, api.ErrNone},
		{contradiction(), []int{4, 7}, api.OK},
		{two, []int{2, 4}, api.OK}, {two[:2], []int{3, 5}, api.OK}, {two[1:], []int{2, 4}, api.OK},
		{[]api.Claim{claim(1, 2, 1, 1, 8), claim(1, 2, 2, 2, 8), claim(1, 2, 3, 3, 9)}, []int{8}, api.OK},
		{[]api.Claim{claim(1, 2, 1, 1, 9), claim(1, 2, 2, 2, 9), claim(1, 2, 3, 3, 8)}, []int{9}, api.OK},
		{[]api.Claim{claim(1, 2, 1, 1, 1), claim(1, 2, 2, 2, 2), claim(1, 2, 3, 3, 3)}, []int{1, 2}, api.OK},
		{[]api.Claim{claim(1, 2, 0, 2, 1), claim(1, 2, 2, 4, 2), claim(1, 2, 4, 5, 3)}, []int{1, 3}, api.OK},
		{[]api.Claim{claim(1, 2, 1, 1, 99999), claim(2, 3, 1, 1, 7), claim(3, 1, -1, -1, 1), claim(1, 3, 2, 2, 2)}, []int{1, 2}, api.OK},
		{append(chainOf(64, 0, 5), claim(64, 1, 1, 1, 99)), append(slices.Sorted(slices.Values(span.Sources(chainOf(64, 0, 5)))), 99), api.OK},
	} {
		by, e := span.Conflict(c.l)
		if !slices.Equal(by, c.want) || e != c.e {
			t.Error(c, by, e)
		}
		if e == api.OK && span.CheckConflict(c.l, by) != api.OK {
			t.Error(c, by)
		}
	}
}

// P2.6, P2.11: Conflict leaves out sources as the chapter says, is accepted, and without any one of its sources there is a chronology.
func TestConflictIsLeast(t *testing.T) {
	d := dice(61)
	tried := 0
	for range 600 {
		l := someList(d)
		by, e := span.Conflict(l)
		if len(all(l)) > 0 {
			if len(by) != 0 || e != api.ErrNone {
				t.Fatal(l, by, e)
			}
			continue
		}
		tried++
		var out []int
		for _, source := range slices.Backward(span.Sources(l)) {
			if len(all(span.Without(l, append(out, source)))) == 0 {
				out = append(out, source)
			}
		}
		want := slices.DeleteFunc(span.Sources(l), func(n int) bool { return slices.Contains(out, n) })
		if !slices.Equal(by, want) || e != api.OK || span.CheckConflict(l, by) != api.OK {
			t.Fatal(l, by, want, e)
		}
		for i := range by {
			if len(all(believed(l, slices.Delete(slices.Clone(by), i, i+1)))) == 0 {
				t.Fatal(l, by)
			}
		}
	}
	if tried < 100 {
		t.Error("too little was tried", tried)
	}
}

// believed are the claims of some sources.
func believed(l []api.Claim, by []int) []api.Claim {
	return slices.DeleteFunc(slices.Clone(l), func(c api.Claim) bool { return !slices.Contains(by, c.By) })
}

// P2.6: lists of sources that are no least conflict.
func TestCheckConflict(t *testing.T) {
	for _, c := range []struct {
		l  []api.Claim
		by []int
		e  api.Errno
	}{
		{contradiction(), []int{4, 7}, api.OK}, {contradiction(), []int{1, 2, 3, 7}, api.ErrConflict}, {contradiction(), []int{4}, api.ErrConflict}, {contradiction(), []int{7}, api.ErrConflict},
		{contradiction(), []int{1, 4, 7}, api.ErrConflict}, {contradiction(), []int{7, 4}, api.ErrConflict}, {contradiction(), []int{4, 4, 7}, api.ErrConflict}, {contradiction(), []int{4, 7, 7}, api.ErrConflict},
		{contradiction(), []int{4, 7, 8}, api.ErrConflict}, {contradiction(), []int{0, 4, 7}, api.ErrConflict}, {contradiction(), []int{-5, 4, 7}, api.ErrConflict}, {contradiction(), []int{4, 7, 100000}, api.ErrConflict},
		{contradiction(), nil, api.ErrConflict}, {contradiction(), []int{}, api.ErrConflict}, {contradiction(), extremes, api.ErrConflict},
		{nil, nil, api.ErrConflict}, {nil, []int{1}, api.ErrConflict}, {example(), nil, api.ErrConflict}, {example(), []int{1, 2, 3, 4}, api.ErrConflict},
		{[]api.Claim{claim(1, 2, 1, 1, 8), claim(1, 2, 2, 2, 8)}, []int{8}, api.OK},
	} {
		if e := span.CheckConflict(c.l, c.by); e != c.e {
			t.Error(c, e)
		}
	}
}

// P2.6: of all sets of sources CheckConflict accepts exactly the least ones.
func TestCheckConflictOfAllSets(t *testing.T) {
	d := dice(62)
	accepted := 0
	for range 150 {
		l := someList(d)
		sources := span.Sources(l)
		for set := range 1 << len(sources) {
			var by []int
			for i, n := range sources {
				if set>>i&1 == 1 {
					by = append(by, n)
				}
			}
			least := len(by) > 0 && len(all(believed(l, by))) == 0
			for i := range by {
				least = least && len(all(believed(l, slices.Delete(slices.Clone(by), i, i+1)))) > 0
			}
			if least != (span.CheckConflict(l, by) == api.OK) {
				t.Fatal(l, by, least)
			}
			if least {
				accepted++
			}
		}
	}
	if accepted < 50 {
		t.Error("too little was tried", accepted)
	}
}

// P2.6: claims without which the closure is the same, marks included.
func TestNeedless(t *testing.T) {
	for _, c := range []struct {
		l    []api.Claim
		want []int
	}{
		{nil, nil},
		{example(), nil},
		{append(example(), claim(0, 6, 13, 15, 5)), []int{0, 4}},
		{append(example(), claim(0, 6, 0, 99, 5)), []int{4}},
		{append(example(), claim(0, 7, -100000, 100000, 5)), nil},
		{repeat(claim(1, 2, 3, 4, 1), 3), []int{0, 1, 2}},
		{[]api.Claim{claim(1, 2, 3, 4, 1), claim(2, 1, -4, -3, 1)}, []int{0, 1}},
		{[]api.Claim{claim(1, 2, 3, 4, 1), claim(1, 2, 2, 4, 1), claim(1, 2, 3, 5, 1)}, []int{0, 1, 2}},
		{[]api.Claim{claim(1, 2, 3, 4, 1), claim(1, 2, 2, 4, 1)}, []int{1}},
	} {
		if l, e := span.Needless(c.l); !slices.Equal(l, c.want) || e != api.OK {
			t.Error(c, l, e)
		}
	}
	if l, e := span.Needless(contradiction()); len(l) != 0 || e != api.ErrChronology {
		t.Error(l, e)
	}
}

// P2.6: Needless agrees with the closure of each list that is one claim shorter.
func TestNeedlessOfSomeLists(t *testing.T) {
	d := dice(63)
	tried := 0
	for range 300 {
		l := someList(d)
		whole, e := span.Close(l)
		got, f := span.Needless(l)
		if e != f {
			t.Fatal(l, e, f)
		}
		if e != api.OK {
			continue
		}
		var want []int
		for i := range l {
			if less, _ := span.Close(slices.Delete(slices.Clone(l), i, i+1)); sameNet(less, whole) {
				want = append(want, i)
			}
		}
		if !slices.Equal(got, want) {
			t.Fatal(l, got, want)
		}
		tried += len(want)
	}
	if tried < 50 {
		t.Error("too little was tried", tried)
	}
}

package cases_test

import (
	"slices"
	"testing"

	"gyttja/api"
	"gyttja/cases"
)

// P5.2: leaves and the choices that are left.
func TestLeavesAndLeft(t *testing.T) {
	apart := claims(claim(1, 2, 0, 0, 1), claim(1, 2, 1, 1, 2))
	for name, c := range map[string]struct {
		w            api.World
		leaves, left [][]int
		e            api.Errno // of Left
	}{
		"the example":             {example(), [][]int{{0, 0}, {0, 2}, {1, 0}, {1, 2}}, [][]int{{0, 1}, {0, 2}}, api.OK},
		"the example, turned":     {world(example().Claims, example().Questions[1], example().Questions[0]), [][]int{{0, 0}, {0, 1}, {2, 0}, {2, 1}}, [][]int{{0, 2}, {0, 1}}, api.OK},
		"no leaf":                 {broken(), nil, nil, api.ErrChronology},
		"claims that contradict":  {world(apart, open(3, 2)), nil, nil, api.ErrChronology},
		"nothing":                 {api.World{}, [][]int{{}}, nil, api.OK},
		"no question":             {world(chainOf(5, 1)), [][]int{{}}, nil, api.OK},
		"no question and no leaf": {world(apart), nil, nil, api.ErrChronology},
		"no claim":                {world(nil, open(1, 2), open(1, 1), open(1, 2)), [][]int{{0, 0, 0}, {0, 0, 1}, {1, 0, 0}, {1, 0, 1}}, [][]int{{0, 1}, {0}, {0, 1}}, api.OK},
		"the last leaf":           {world(apart[:1], question(2, apart[1:], apart[1:], claims(claim(2, 1, 0, 0, 2)))), [][]int{{2}}, [][]int{{2}}, api.OK},
		"a choice by itself":      {world(nil, question(1, append(chainOf(3, 1), claim(1, 3, 11, 11, 1)), chainOf(3, 1))), [][]int{{1}}, [][]int{{1}}, api.OK},
	} {
		if l, e := cases.Leaves(c.w); !sameLists(l, c.leaves) || e != api.OK {
			t.Error(name, "Leaves", l, e)
		}
		if l, e := cases.Left(c.w); !sameLists(l, c.left) || e != c.e {
			t.Error(name, "Left", l, e)
		}
	}
}

// P5.2, P5.7: the leaves of all trees that CheckTree accepts are Leaves, and those whose claims have years; Left has their choices.
func TestLeavesOfTrees(t *testing.T) {
	d := dice(21)
	tried := map[bool]int{}
	for range 400 {
		w := someWorld(d)
		want := leavesOf(w)
		leaves, e := cases.Leaves(w)
		if !sameLists(leaves, want) || e != api.OK {
			t.Fatal(w, leaves, e)
		}
		for _, x := range []api.Tree{first(cases.Grow(w)), someTree(d, w)} {
			var found [][]int
			for i, twig := range x.Twigs {
				if way := wayTo(x, i); len(way) == len(w.Questions) && len(twig.Cut) == 0 {
					found = append(found, way)
				}
			}
			if cases.CheckTree(w, x) != api.OK || !sameLists(found, leaves) {
				t.Fatal(w, x, leaves)
			}
		}
		tried[len(leaves) > 0]++
		left, e := cases.Left(w)
		if len(leaves) == 0 {
			if len(left) > 0 || e != api.ErrChronology {
				t.Fatal(w, left, e)
			}
			continue
		}
		var has [][]int
		for i := range w.Questions {
			var choices []int
			for _, way := range leaves {
				choices = append(choices, way[i])
			}
			slices.Sort(choices)
			has = append(has, slices.Compact(choices))
		}
		if !sameLists(left, has) || e != api.OK {
			t.Fatal(w, left, has, e)
		}
	}
	if tried[true] < 100 || tried[false] < 100 {
		t.Error("too little was tried", tried)
	}
}

// P5.7: a choice is left if and only if some chronology has it.
func TestLeftIsWhatChronologiesHave(t *testing.T) {
	d := dice(22)
	tried := 0
	for range 300 {
		w := someWorld(d)
		left, e := cases.Left(w)
		if e != api.OK {
			continue
		}
		var has [][]int
		for range w.Questions {
			has = append(has, nil)
		}
		for p := range len(ways(w, len(w.Questions))) {
			choices, years, e := cases.Chronology(w, []int{p, d.IntN(9)})
			if e != api.OK || !isChronology(w, choices, years) {
				t.Fatal(w, choices, years, e)
			}
			for i, choice := range choices {
				if !slices.Contains(has[i], choice) {
					has[i] = append(has[i], choice)
				}
			}
		}
		for i := range has {
			slices.Sort(has[i])
			tried += len(w.Questions[i].Choices) - len(has[i])
		}
		if !sameLists(left, has) {
			t.Fatal(w, left, has)
		}
	}
	if tried < 50 {
		t.Error("too little was tried", tried)
	}
}

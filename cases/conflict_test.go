package cases_test

import (
	"slices"
	"testing"

	"gyttja/api"
	"gyttja/cases"
	"gyttja/span"
)

// P5.5: sources that contradict each other, and how they are found.
func TestConflict(t *testing.T) {
	at := func(years, by int) api.Claim { return claim(1, 2, years, years, by) }
	for name, c := range map[string]struct {
		w    api.World
		want []int
		e    api.Errno
	}{
		"the example":                    {example(), nil, api.ErrNone},
		"nothing":                        {api.World{}, nil, api.ErrNone},
		"no claims":                      {world(nil, open(1, 2)), nil, api.ErrNone},
		"no leaf":                        {broken(), []int{1, 2, 4}, api.OK},
		"claims alone":                   {world(claims(at(1, 5), at(2, 3), at(1, 4))), []int{3, 4}, api.OK},
		"the greatest goes first":        {world(claims(at(1, 1), at(2, 2), at(3, 3))), []int{1, 2}, api.OK},
		"the greatest goes first, again": {world(claims(at(1, 3), at(2, 2), at(3, 1))), []int{1, 2}, api.OK},
		"one source":                     {world(claims(at(1, 8), at(2, 8), at(3, 9))), []int{8}, api.OK},
		"a greater source by itself":     {world(claims(at(1, 9), at(2, 9), at(3, 8))), []int{9}, api.OK},
		"a question by itself":           {world(nil, question(7, claims(at(1, 7), at(2, 7)), claims(at(3, 7), at(4, 7)))), []int{7}, api.OK},
		"a question with one of claims":  {world(claims(at(5, 2)), question(7, claims(at(1, 7)), claims(at(2, 7)))), []int{2, 7}, api.OK},
		"a question that goes":           {world(claims(at(5, 2), at(6, 3)), question(7, claims(at(5, 7)), claims(at(2, 7)))), []int{2, 3}, api.OK},
		"a question that stays":          {world(claims(at(5, 2), at(6, 8)), question(7, claims(at(1, 7)), claims(at(2, 7)))), []int{2, 7}, api.OK},
		"a question that does not ask":   {world(claims(at(5, 2), at(6, 8)), open(3, 4)), []int{2, 8}, api.OK},
		"two questions":                  {world(nil, question(4, claims(at(1, 4)), claims(at(2, 4))), open(2, 2), question(3, claims(at(3, 3)), claims(at(4, 3)))), []int{3, 4}, api.OK},
		"three questions": {world(nil, question(3, claims(at(1, 3)), claims(at(2, 3))), question(2, claims(at(2, 2)), claims(at(3, 2))), question(1, claims(at(3, 1)), claims(at(1, 1)))),
			[]int{1, 2, 3}, api.OK},
		"each choice by another source":        {world(claims(at(1, 1), at(2, 9)), question(5, claims(at(2, 5)), claims(claim(3, 4, 5, 5, 5), claim(3, 4, 6, 6, 5)))), []int{1, 5}, api.OK},
		"a source of claims and of a question": {world(claims(at(1, 5), claim(3, 4, 0, 0, 6)), question(5, claims(at(2, 5)), claims(at(3, 5)))), []int{5}, api.OK},
		"a source of two questions":            {world(nil, question(5, claims(at(2, 5)), claims(at(3, 5))), open(6, 2), question(5, claims(at(4, 5)))), []int{5}, api.OK},
		"a source that frees a question": {world(claims(at(1, 1), claim(3, 4, 7, 7, 2)),
			question(3, claims(at(1, 3), claim(3, 4, 8, 8, 3)), claims(at(2, 3)))), []int{1, 2, 3}, api.OK},
	} {
		by, e := cases.Conflict(c.w)
		if !slices.Equal(by, c.want) || e != c.e {
			t.Error(name, by, e)
		}
		if e == api.OK && cases.CheckConflict(c.w, by) != api.OK {
			t.Error(name, by)
		}
	}
}

// P5.5, P5.9: Conflict leaves out sources as the chapter says, is accepted, and is there if and only if there is no leaf.
func TestConflictIsLeast(t *testing.T) {
	d := dice(51)
	tried, asked := 0, 0
	for range 1000 {
		w := someWorld(d)
		by, e := cases.Conflict(w)
		if len(leavesOf(w)) > 0 {
			if len(by) > 0 || e != api.ErrNone {
				t.Fatal(w, by, e)
			}
			continue
		}
		left := sourcesOf(w)
		for _, source := range slices.Backward(sourcesOf(w)) {
			fewer := slices.DeleteFunc(slices.Clone(left), func(n int) bool { return n == source })
			if len(leavesOf(believed(w, fewer))) == 0 {
				left = fewer
			}
		}
		if !slices.Equal(by, left) || e != api.OK || cases.CheckConflict(w, by) != api.OK {
			t.Fatal(w, by, left, e)
		}
		tried++
		if len(believed(w, by).Questions) > 0 {
			asked++
		}
	}
	if tried < 200 || asked < 100 {
		t.Error("too little was tried", tried, asked)
	}
}

// P5.5: lists of sources that are no least conflict.
func TestCheckConflict(t *testing.T) {
	for _, c := range []struct {
		w  api.World
		by []int
		e  api.Errno
	}{
		{broken(), []int{1, 2, 4}, api.OK}, {broken(), []int{1, 2, 3, 4}, api.ErrConflict}, {broken(), []int{1, 2, 3}, api.ErrConflict},
		{broken(), []int{1, 2}, api.ErrConflict}, {broken(), []int{2, 4}, api.ErrConflict}, {broken(), []int{1, 4}, api.ErrConflict}, {broken(), []int{4}, api.ErrConflict},
		{broken(), []int{1, 4, 2}, api.ErrConflict}, {broken(), []int{2, 1, 4}, api.ErrConflict}, {broken(), []int{1, 1, 2, 4}, api.ErrConflict}, {broken(), []int{1, 2, 4, 4}, api.ErrConflict},
		{broken(), []int{1, 2, 4, 5}, api.ErrConflict}, {broken(), []int{0, 1, 2, 4}, api.ErrConflict}, {broken(), []int{-3, 1, 2, 4}, api.ErrConflict}, {broken(), []int{1, 2, 4, 100000}, api.ErrConflict},
		{broken(), nil, api.ErrConflict}, {broken(), []int{}, api.ErrConflict}, {broken(), extremes, api.ErrConflict},
		{example(), nil, api.ErrConflict}, {example(), []int{1, 2, 3}, api.ErrConflict}, {api.World{}, nil, api.ErrConflict}, {api.World{}, []int{1}, api.ErrConflict},
		{world(nil, question(7, claims(claim(1, 2, 1, 1, 7), claim(1, 2, 2, 2, 7)))), []int{7}, api.OK},
		{world(claims(claim(1, 2, 1, 1, 9), claim(1, 2, 2, 2, 9)), open(7, 1)), []int{7, 9}, api.ErrConflict},
	} {
		if e := cases.CheckConflict(c.w, c.by); e != c.e {
			t.Error(c, e)
		}
	}
}

// P5.5, P5.9: of all sets of sources CheckConflict accepts exactly the least ones, of which there are some if and only if there is no leaf.
func TestCheckConflictOfAllSets(t *testing.T) {
	d := dice(52)
	accepted := 0
	for range 300 {
		w := someWorld(d)
		sources := sourcesOf(w)
		hasLeaf := make([]bool, 1<<len(sources))
		sets := make([][]int, 1<<len(sources))
		for set := range sets {
			for i, n := range sources {
				if set>>i&1 == 1 {
					sets[set] = append(sets[set], n)
				}
			}
			hasLeaf[set] = len(leavesOf(believed(w, sets[set]))) > 0
		}
		some := false
		for set, by := range sets {
			least := !hasLeaf[set]
			for i := range sources {
				least = least && (set>>i&1 == 0 || hasLeaf[set&^(1<<i)])
			}
			if least != (cases.CheckConflict(w, by) == api.OK) {
				t.Fatal(w, by, least)
			}
			if least {
				accepted++
				some = true
			}
		}
		if some != (len(leavesOf(w)) == 0) {
			t.Fatal(w)
		}
	}
	if accepted < 100 {
		t.Error("too little was tried", accepted)
	}
}

// P5.5: sources that contradict each other at choices.
func TestBlame(t *testing.T) {
	for _, c := range []struct {
		w       api.World
		choices []int
		want    []int
		e       api.Errno
	}{
		{example(), []int{0, 1}, []int{1, 2, 3}, api.OK}, {example(), []int{1, 1}, []int{1, 2, 3}, api.OK}, {example(), []int{0, 0}, nil, api.ErrNone}, {example(), []int{1, 2}, nil, api.ErrNone},
		{broken(), []int{0, 0}, []int{1, 2, 4}, api.OK}, {broken(), []int{0, 1}, []int{1, 2, 3}, api.OK}, {broken(), []int{1, 0}, []int{1, 2, 4}, api.OK},
		{api.World{}, nil, nil, api.ErrNone}, {world(nil, question(7, nil, claims(claim(1, 2, 1, 1, 7), claim(1, 2, 2, 2, 7)))), []int{1}, []int{7}, api.OK},
		{example(), nil, nil, api.ErrChoice}, {example(), []int{0}, nil, api.ErrChoice}, {example(), []int{0, 1, 0}, nil, api.ErrChoice}, {example(), []int{2, 1}, nil, api.ErrChoice},
		{example(), []int{0, 3}, nil, api.ErrChoice}, {broken(), []int{-1, 0}, nil, api.ErrChoice}, {broken(), extremes, nil, api.ErrChoice},
	} {
		if by, e := cases.Blame(c.w, c.choices); !slices.Equal(by, c.want) || e != c.e {
			t.Error(c, by, e)
		}
	}
}

// P5.5: at all choices Blame is span's conflict of the claims, and there is none at leaves.
func TestBlameAtAllChoices(t *testing.T) {
	d := dice(53)
	tried := map[api.Errno]int{}
	for range 200 {
		w := someWorld(d)
		leaves := leavesOf(w)
		for _, way := range ways(w, len(w.Questions)) {
			by, e := cases.Blame(w, way)
			want, _ := span.Conflict(behind(w, way))
			isLeaf := slices.ContainsFunc(leaves, func(leaf []int) bool { return slices.Equal(leaf, way) })
			if !slices.Equal(by, want) || isLeaf != (e == api.ErrNone) || !isLeaf && e != api.OK {
				t.Fatal(w, way, by, want, e)
			}
			tried[e]++
		}
	}
	if tried[api.OK] < 200 || tried[api.ErrNone] < 200 {
		t.Error("too little was tried", tried)
	}
}

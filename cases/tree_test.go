package cases_test

import (
	"cmp"
	"math/rand/v2"
	"slices"
	"testing"

	"gyttja/api"
	"gyttja/cases"
)

func first[T any](result T, _ api.Errno) T { return result }

func ahead(i int) api.Step { return api.Step{Claim: i} }
func back(i int) api.Step  { return api.Step{Claim: i, Back: true} }

// wayTo are the choices on the way to a twig, read back from it to the root.
func wayTo(t api.Tree, i int) []int {
	var way []int
	for ; i > 0; i = t.Twigs[i].Parent {
		way = append(way, t.Twigs[i].Choice)
	}
	slices.Reverse(way)
	return way
}

// contradicts follows a chain step by step.
func contradicts(l []api.Claim, chain []api.Step) bool {
	bound, begin, at := 0, 0, 0
	for i, s := range chain {
		if s.Claim < 0 || s.Claim >= len(l) {
			return false
		}
		c := l[s.Claim]
		if s.Back {
			c = claim(c.B, c.A, -c.Hi, -c.Lo, c.By)
		}
		if i == 0 {
			begin, at = c.A, c.A
		}
		if c.A != at {
			return false
		}
		at = c.B
		bound += c.Hi
	}
	return begin == at && bound < 0 && len(chain) <= api.MaxClaims
}

// isTree says what the chapter says of a tree that CheckTree accepts.
func isTree(w api.World, t api.Tree) bool {
	if len(t.Twigs) == 0 || t.Twigs[0].Parent != -1 || t.Twigs[0].Choice != -1 {
		return false
	}
	children := make([][]int, len(t.Twigs))
	for i, x := range t.Twigs[1:] {
		// The twigs rise by their parents and choices, and each parent is ahead of its children.
		before := t.Twigs[i]
		if x.Parent < 0 || x.Parent > i || cmp.Or(cmp.Compare(before.Parent, x.Parent), cmp.Compare(before.Choice, x.Choice)) >= 0 {
			return false
		}
		children[x.Parent] = append(children[x.Parent], x.Choice)
	}
	for i, x := range t.Twigs {
		way := wayTo(t, i)
		if len(way) > len(w.Questions) {
			return false
		}
		due := 0
		if len(x.Cut) == 0 && len(way) < len(w.Questions) {
			due = len(w.Questions[len(way)].Choices)
		}
		if len(children[i]) != due {
			return false
		}
		for k, choice := range children[i] {
			if k != choice {
				return false
			}
		}
		switch {
		case len(x.Cut) > 0 && !contradicts(behind(w, way), x.Cut):
			return false
		case len(x.Cut) == 0 && len(way) == len(w.Questions) && !isPossible(behind(w, way)):
			return false
		}
	}
	return true
}

// shapeOf has the parent and the choice of each twig, and 1 if it is cut.
func shapeOf(t api.Tree) [][3]int {
	var shape [][3]int
	for _, x := range t.Twigs {
		shape = append(shape, [3]int{x.Parent, x.Choice, min(1, len(x.Cut))})
	}
	return shape
}

// P5.2: the tree of the example, and of worlds without questions, leaves or claims.
func TestGrow(t *testing.T) {
	root := [][3]int{{-1, -1, 0}}
	cut := [][3]int{{-1, -1, 1}}
	apart := claims(claim(1, 2, 0, 0, 1), claim(1, 2, 1, 1, 2))
	for name, c := range map[string]struct {
		w    api.World
		want [][3]int
	}{
		"the example":             {example(), [][3]int{{-1, -1, 0}, {0, 0, 0}, {0, 1, 0}, {1, 0, 0}, {1, 1, 1}, {1, 2, 0}, {2, 0, 0}, {2, 1, 1}, {2, 2, 0}}},
		"no leaf":                 {broken(), [][3]int{{-1, -1, 0}, {0, 0, 1}, {0, 1, 1}}},
		"nothing":                 {api.World{}, root},
		"no question":             {world(chainOf(3, 1)), root},
		"no question and no leaf": {world(apart), cut},
		"claims that contradict":  {world(apart, open(3, 5), open(4, 2)), cut},
		"no claim":                {world(nil, open(1, 2), open(2, 1), open(3, 2)), [][3]int{{-1, -1, 0}, {0, 0, 0}, {0, 1, 0}, {1, 0, 0}, {2, 0, 0}, {3, 0, 0}, {3, 1, 0}, {4, 0, 0}, {4, 1, 0}}},
		"a choice by itself":      {world(nil, question(1, apart[:1]), question(2, nil, claims(claim(1, 2, 3, 3, 2), claim(2, 1, 3, 3, 2)))), [][3]int{{-1, -1, 0}, {0, 0, 0}, {1, 0, 0}, {1, 1, 1}}},
	} {
		x, e := cases.Grow(c.w)
		if !slices.Equal(shapeOf(x), c.want) || e != api.OK {
			t.Error(name, x, e)
		}
		if !isTree(c.w, x) || cases.CheckTree(c.w, x) != api.OK {
			t.Error(name, x)
		}
	}
}

// P5.2: in trees of some worlds just the twigs without a chronology are cut, and CheckTree accepts them.
func TestGrowSomeWorlds(t *testing.T) {
	d := dice(11)
	cuts := 0
	for range 400 {
		w := someWorld(d)
		x, e := cases.Grow(w)
		if e != api.OK || !isTree(w, x) || cases.CheckTree(w, x) != api.OK {
			t.Fatal(w, x, e)
		}
		for i, twig := range x.Twigs {
			if (len(twig.Cut) > 0) == isPossible(behind(w, wayTo(x, i))) {
				t.Fatal(w, x, i)
			}
			cuts += min(1, len(twig.Cut))
		}
	}
	if cuts < 200 {
		t.Error("too little was tried", cuts)
	}
}

// P5.2: trees with one fault each.
func TestCheckTree(t *testing.T) {
	w := example()
	cut := []api.Step{back(2), ahead(0), ahead(1)}
	for name, c := range map[string]struct {
		change func(*api.Tree)
		e      api.Errno
	}{
		"none":                       {func(*api.Tree) {}, api.OK},
		"another cut":                {func(x *api.Tree) { x.Twigs[4].Cut = cut }, api.OK},
		"another beginning":          {func(x *api.Tree) { x.Twigs[4].Cut = []api.Step{ahead(1), back(2), ahead(0)} }, api.OK},
		"a longer cut":               {func(x *api.Tree) { x.Twigs[4].Cut = slices.Concat(cut, cut) }, api.OK},
		"the longest cut":            {func(x *api.Tree) { x.Twigs[4].Cut = slices.Repeat(cut, 133) }, api.OK},
		"a cut that is too long":     {func(x *api.Tree) { x.Twigs[4].Cut = slices.Repeat(cut, 134) }, api.ErrTree},
		"no cut":                     {func(x *api.Tree) { x.Twigs[4].Cut = nil }, api.ErrTree},
		"an empty cut":               {func(x *api.Tree) { x.Twigs[4].Cut = []api.Step{} }, api.ErrTree},
		"empty lists in place of no": {func(x *api.Tree) { x.Twigs[3].Cut = []api.Step{} }, api.OK},
		"a cut that turns":           {func(x *api.Tree) { x.Twigs[4].Cut = []api.Step{ahead(2), back(1), back(0)} }, api.ErrTree},
		"a cut that breaks off":      {func(x *api.Tree) { x.Twigs[4].Cut = cut[:2] }, api.ErrTree},
		"a cut with a gap":           {func(x *api.Tree) { x.Twigs[4].Cut = []api.Step{back(2), ahead(1), ahead(0)} }, api.ErrTree},
		"a cut by no claim":          {func(x *api.Tree) { x.Twigs[4].Cut = []api.Step{back(3), ahead(0), ahead(1)} }, api.ErrTree},
		"a cut of bound 0":           {func(x *api.Tree) { x.Twigs[4].Cut = []api.Step{ahead(1), back(1)} }, api.ErrTree},
		"a cut of a leaf":            {func(x *api.Tree) { x.Twigs[5].Cut = cut }, api.ErrTree},
		"a cut with children":        {func(x *api.Tree) { x.Twigs[1].Cut = cut }, api.ErrTree},
		"a cut of the root":          {func(x *api.Tree) { x.Twigs[0].Cut = []api.Step{ahead(0), back(0)} }, api.ErrTree},
		"a root that is cut":         {func(x *api.Tree) { x.Twigs, x.Twigs[0].Cut = x.Twigs[:1], []api.Step{ahead(0)} }, api.ErrTree},
		"a cut of an open twig":      {func(x *api.Tree) { x.Twigs, x.Twigs[2].Cut = x.Twigs[:6], []api.Step{back(1)} }, api.ErrTree},
		"a cut of one step":          {func(x *api.Tree) { x.Twigs[4].Cut = cut[:1] }, api.ErrTree},
		"no twig":                    {func(x *api.Tree) { x.Twigs = nil }, api.ErrTree},
		"an empty list":              {func(x *api.Tree) { x.Twigs = []api.Twig{} }, api.ErrTree},
		"the root alone":             {func(x *api.Tree) { x.Twigs = x.Twigs[:1] }, api.ErrTree},
		"a twig less":                {func(x *api.Tree) { x.Twigs = x.Twigs[:8] }, api.ErrTree},
		"no root":                    {func(x *api.Tree) { x.Twigs = x.Twigs[1:] }, api.ErrTree},
		"two roots":                  {func(x *api.Tree) { x.Twigs = append(x.Twigs[:1], x.Twigs...) }, api.ErrTree},
		"a twig more":                {func(x *api.Tree) { x.Twigs = append(x.Twigs, api.Twig{Parent: 2, Choice: 3}) }, api.ErrTree},
		"a twig below a leaf":        {func(x *api.Tree) { x.Twigs = append(x.Twigs, api.Twig{Parent: 3}) }, api.ErrTree},
		"a twig below a cut":         {func(x *api.Tree) { x.Twigs = append(x.Twigs, api.Twig{Parent: 4}) }, api.ErrTree},
		"the root again":             {func(x *api.Tree) { x.Twigs = append(x.Twigs, x.Twigs[0]) }, api.ErrTree},
		"the last twig twice":        {func(x *api.Tree) { x.Twigs = append(x.Twigs, x.Twigs[8]) }, api.ErrTree},
		"a root with a parent":       {func(x *api.Tree) { x.Twigs[0].Parent = 0 }, api.ErrTree},
		"a root with a choice":       {func(x *api.Tree) { x.Twigs[0].Choice = 0 }, api.ErrTree},
		"another parent":             {func(x *api.Tree) { x.Twigs[6].Parent = 1 }, api.ErrTree},
		"a parent that is not there": {func(x *api.Tree) { x.Twigs[6].Parent = 9 }, api.ErrTree},
		"another choice":             {func(x *api.Tree) { x.Twigs[6].Choice = 1 }, api.ErrTree},
		"a choice that is not there": {func(x *api.Tree) { x.Twigs[8].Choice = 3 }, api.ErrTree},
		"another order":              {func(x *api.Tree) { x.Twigs[3], x.Twigs[5] = x.Twigs[5], x.Twigs[3] }, api.ErrTree},
		"parents in another order":   {func(x *api.Tree) { x.Twigs[1], x.Twigs[2] = x.Twigs[2], x.Twigs[1] }, api.ErrTree},
	} {
		x, e := cases.Grow(w)
		if e != api.OK {
			t.Fatal(e)
		}
		c.change(&x)
		if e := cases.CheckTree(w, x); e != c.e {
			t.Error(name, e)
		}
		if isTree(w, x) != (c.e == api.OK) {
			t.Error("the test itself is wrong:", name)
		}
	}
}

// P5.2: a tree may go on where it could be cut.
func TestCheckTreeThatGoesOn(t *testing.T) {
	w := broken()
	low := []api.Step{ahead(0), ahead(2), back(1)}  // 12 and 3 against 16
	high := []api.Step{ahead(1), back(2), back(0)}  // 17 against 10 and 8
	late := []api.Step{back(3), ahead(0), ahead(2)} // 30 against 12 and 9
	full := api.Tree{Twigs: []api.Twig{{Parent: -1, Choice: -1}, {Parent: 0, Choice: 0}, {Parent: 0, Choice: 1},
		{Parent: 1, Choice: 0, Cut: low}, {Parent: 1, Choice: 1, Cut: late}, {Parent: 1, Choice: 2, Cut: low},
		{Parent: 2, Choice: 0, Cut: high}, {Parent: 2, Choice: 1, Cut: late}, {Parent: 2, Choice: 2, Cut: high}}}
	if !isTree(w, full) || cases.CheckTree(w, full) != api.OK {
		t.Error(full)
	}
	short := api.Tree{Twigs: slices.Clone(full.Twigs[:6])}
	short.Twigs[2].Cut = high
	if cases.CheckTree(w, short) != api.OK {
		t.Error(short)
	}
	for i := range 3 {
		open := api.Tree{Twigs: slices.Clone(full.Twigs)}
		open.Twigs[3+i].Cut = nil
		if e := cases.CheckTree(w, open); e != api.ErrTree {
			t.Error(open, e)
		}
	}
}

// someTree goes on below contradictions or not, as the dice fall.
func someTree(d *rand.Rand, w api.World) api.Tree {
	t := api.Tree{Twigs: []api.Twig{{Parent: -1, Choice: -1}}}
	for i := 0; i < len(t.Twigs); i++ {
		way := wayTo(t, i)
		chain := cutOf(behind(w, way))
		if len(chain) > 0 && (len(way) == len(w.Questions) || d.IntN(2) == 0) {
			t.Twigs[i].Cut = chain
			continue
		}
		if len(way) < len(w.Questions) {
			for choice := range w.Questions[len(way)].Choices {
				t.Twigs = append(t.Twigs, api.Twig{Parent: i, Choice: choice})
			}
		}
	}
	return t
}

// cutOf goes along all chains of few steps for one that contradicts.
func cutOf(l []api.Claim) []api.Step {
	if isPossible(l) {
		return nil
	}
	var try func(begin, at, bound int, chain []api.Step) []api.Step
	try = func(begin, at, bound int, chain []api.Step) []api.Step {
		if len(chain) > 0 && at == begin {
			if bound < 0 {
				return chain
			}
			return nil
		}
		if len(chain) == len(someMarks) {
			return nil
		}
		for i, c := range l {
			longer := chain[:len(chain):len(chain)]
			if c.A == at {
				if found := try(begin, c.B, bound+c.Hi, append(longer, ahead(i))); found != nil {
					return found
				}
			}
			if c.B == at {
				if found := try(begin, c.A, bound-c.Lo, append(longer, back(i))); found != nil {
					return found
				}
			}
		}
		return nil
	}
	for _, mark := range someMarks {
		if found := try(mark, mark, 0, nil); found != nil {
			return found
		}
	}
	return nil
}

// changed is a tree with a change or two, which may leave it right.
func changed(d *rand.Rand, t api.Tree) api.Tree {
	l := slices.Clone(t.Twigs)
	for range 1 + d.IntN(2) {
		i := d.IntN(len(l)) // there always is a twig
		switch d.IntN(7) {
		case 0:
			l[i].Parent += d.IntN(3) - 1
		case 1:
			l[i].Choice += d.IntN(3) - 1
		case 2:
			l[i].Cut = nil
		case 3:
			l[i].Cut = l[d.IntN(len(l))].Cut
		case 4:
			if len(l) > 1 {
				l = slices.Delete(l, i, i+1)
			}
		case 5:
			l = slices.Insert(l, i, l[d.IntN(len(l))])
		case 6:
			l = l[:max(1, len(l)-1)]
		}
	}
	return api.Tree{Twigs: l}
}

// P5.2: of some trees CheckTree accepts exactly those that the chapter describes.
func TestCheckSomeTrees(t *testing.T) {
	d := dice(12)
	tried := map[bool]int{}
	for range 600 {
		w := someWorld(d)
		x := someTree(d, w)
		if !isTree(w, x) || cases.CheckTree(w, x) != api.OK {
			t.Fatal(w, x)
		}
		for range 5 {
			y := changed(d, x)
			right := isTree(w, y)
			if right != (cases.CheckTree(w, y) == api.OK) {
				t.Fatal(w, y, right)
			}
			tried[right]++
		}
	}
	if tried[true] < 100 || tried[false] < 500 {
		t.Error("too little was tried", tried)
	}
}

// P5.2: trees of as many twigs as may be.
func TestLargestTrees(t *testing.T) {
	for _, c := range []struct {
		w     api.World
		twigs int
	}{
		{world(nil, open(1, 60), open(2, 50)), 1 + 60 + 3000},
		{world(nil, open(1, 60), open(2, 50), open(3, 1), open(4, 1), open(5, 1), open(6, 1)), 1 + 60 + 5*3000},
		{world(nil, open(1, 1), open(2, 1), open(3, 1), open(4, 1), open(5, 50), open(6, 60)), 5 + 50 + 3000},
		{world(nil, questions(open(1, 3), 6)...), 1 + 3 + 9 + 27 + 81 + 243 + 729},
	} {
		x, e := cases.Grow(c.w)
		if len(x.Twigs) != c.twigs || e != api.OK || cases.CheckTree(c.w, x) != api.OK {
			t.Error(c.w, len(x.Twigs), e)
		}
		x.Twigs[c.twigs-1].Choice++
		if cases.CheckTree(c.w, x) != api.ErrTree {
			t.Error(c.w)
		}
	}
}

package ash_test

import (
	"math"
	"testing"

	"gyttja/api"
	"gyttja/ash"
)

// badLists are lists of ashes that are not valid.
func badLists() map[string][]api.Ash {
	with := func(change func(l []api.Ash)) []api.Ash {
		l := example()
		change(l)
		return l
	}
	return map[string][]api.Ash{
		"ten ashes":       inCores(10),
		"Id 0":            with(func(l []api.Ash) { l[0].Id = 0 }),
		"Id -1":           with(func(l []api.Ash) { l[0].Id = -1 }),
		"Id 100000":       with(func(l []api.Ash) { l[3].Id = 100000 }),
		"Id least":        with(func(l []api.Ash) { l[0].Id = math.MinInt }),
		"equal Ids":       with(func(l []api.Ash) { l[1].Id = 1 }),
		"falling Ids":     with(func(l []api.Ash) { l[2].Id, l[3].Id = 4, 3 }),
		"mark 0":          with(func(l []api.Ash) { l[0].Mark = 0 }),
		"mark -5":         with(func(l []api.Ash) { l[3].Mark = -5 }),
		"mark 2049":       with(func(l []api.Ash) { l[1].Mark = 2049 }),
		"equal marks":     with(func(l []api.Ash) { l[3].Mark = 5 }),
		"band from -1":    with(func(l []api.Ash) { l[0].Grain[0].Lo = -1 }),
		"band of none":    with(func(l []api.Ash) { l[2].Grain[1] = api.Band{Lo: 11, Hi: 10} }),
		"band to 10001":   with(func(l []api.Ash) { l[3].Grain[2].Hi = 10001 }),
		"band above all":  with(func(l []api.Ash) { l[3].Grain[2] = api.Band{Lo: 10001, Hi: 10001} }),
		"band below all":  with(func(l []api.Ash) { l[1].Grain[0] = api.Band{Lo: -2, Hi: -1} }),
		"only zeros":      {{}},
		"a wrong one too": append(example(), api.Ash{Id: 5}),
	}
}

// P4.1: Check of lists that are valid: none, as many as may be, with the least and the greatest numbers.
func TestCheck(t *testing.T) {
	ends := []api.Ash{{Id: 1, Mark: 2048, Grain: grain(0, 10000)}, {Id: 2, Mark: 64, Grain: grain(0, 0)}, {Id: 99999, Mark: 1, Grain: grain(10000, 10000)}}
	for _, l := range [][]api.Ash{nil, {}, example(), inCores(9), ends} {
		if e := ash.Check(l); e != api.OK {
			t.Error(l, e)
		}
	}
}

// P4.1: Check of lists that are not valid.
func TestCheckBad(t *testing.T) {
	for name, l := range badLists() {
		if e := ash.Check(l); e != api.ErrAsh {
			t.Error(name, e)
		}
	}
}

// badTies are ties that are not valid for the ashes of the example.
func badTies() map[string][]api.Tie {
	var many []api.Tie
	for range 61 {
		many = append(many, same(1, 3))
	}
	return map[string][]api.Tie{
		"61 ties":     many,
		"one ash":     {same(2, 2)},
		"turned":      {not(3, 1)},
		"A unknown":   {not(0, 1)},
		"B unknown":   {same(1, 5)},
		"last of two": {same(1, 3), not(4, 3)},
		"a mark":      {same(5, 9)},
		"zeros":       {{}},
		"extremes":    {same(math.MinInt, math.MaxInt)},
	}
}

// P4.1: CheckTies, with as many ties as may be, and several of the same two ashes.
func TestCheckTies(t *testing.T) {
	for _, ties := range [][]api.Tie{nil, {}, {same(1, 2)}, {not(1, 4), same(1, 4), same(1, 4), not(3, 4)}, badTies()["61 ties"][:60]} {
		if e := ash.CheckTies(example(), ties); e != api.OK {
			t.Error(ties, e)
		}
	}
	for name, ties := range badTies() {
		if e := ash.CheckTies(example(), ties); e != api.ErrTie {
			t.Error(name, e)
		}
		if e := ash.CheckTies(badLists()["Id 0"], ties); e != api.ErrAsh {
			t.Error(name, e)
		}
	}
	if e := ash.CheckTies(nil, []api.Tie{same(1, 2)}); e != api.ErrTie {
		t.Error(e)
	}
	if e := ash.CheckTies(nil, nil); e != api.OK {
		t.Error(e)
	}
}

// P4.1: Common and Meets, of the chapter's examples, and of bands without values.
func TestCommon(t *testing.T) {
	type three = [3]api.Band
	of := func(g three) api.Ash { return api.Ash{Grain: g} }
	low, high := api.Band{Lo: math.MinInt, Hi: -3}, api.Band{Lo: -3, Hi: math.MaxInt}
	for name, c := range map[string]struct {
		l    []api.Ash
		want three
		is   bool
	}{
		"the example":      {[]api.Ash{example()[0], of(three{{Lo: 15, Hi: 30}, {Lo: 20, Hi: 20}, {Lo: 0, Hi: 10}})}, three{{Lo: 15, Hi: 20}, {Lo: 20, Hi: 20}, {Lo: 10, Hi: 10}}, true},
		"none":             {nil, three{}, false},
		"one":              {example()[:1], grain(10, 20), true},
		"one value":        {[]api.Ash{of(grain(0, 0))}, grain(0, 0), true},
		"one without":      {[]api.Ash{of(three{{Lo: 1, Hi: 2}, {Lo: 1, Hi: 2}, {Lo: 3, Hi: 2}})}, three{}, false},
		"1 to 0":           {[]api.Ash{of(three{{Lo: 1, Hi: 0}, {Lo: 1, Hi: 2}, {Lo: 3, Hi: 3}})}, three{}, false},
		"first unlike":     {[]api.Ash{of(three{{Lo: 1, Hi: 2}, {}, {}}), of(three{{Lo: 3, Hi: 4}, {}, {}})}, three{}, false},
		"middle unlike":    {[]api.Ash{of(three{{}, {Lo: 3, Hi: 4}, {}}), of(three{{}, {Lo: 1, Hi: 2}, {}})}, three{}, false},
		"last unlike":      {[]api.Ash{of(three{{}, {}, {Lo: 3, Hi: 4}}), of(three{{}, {}, {Lo: 5, Hi: 5}})}, three{}, false},
		"beyond limits":    {[]api.Ash{of(three{low, high, low}), of(three{high, high, low})}, three{{Lo: -3, Hi: -3}, high, low}, true},
		"a third one":      {[]api.Ash{of(grain(0, 9)), of(grain(5, 12)), of(grain(9, 20))}, grain(9, 9), true},
		"two without":      {[]api.Ash{of(grain(0, 9)), of(grain(7, 3))}, three{}, false},
		"both without":     {[]api.Ash{of(grain(7, 3)), of(grain(7, 3))}, three{}, false},
		"the widest":       {[]api.Ash{of(grain(math.MinInt, math.MaxInt)), of(grain(math.MinInt, math.MaxInt))}, grain(math.MinInt, math.MaxInt), true},
		"the most without": {[]api.Ash{of(grain(math.MaxInt, math.MinInt)), of(grain(0, 1))}, three{}, false},
	} {
		if got, is := ash.Common(c.l); got != c.want || is != c.is {
			t.Error(name, got, is)
		}
		if len(c.l) == 2 && (ash.Meets(c.l[0], c.l[1]) != c.is || ash.Meets(c.l[1], c.l[0]) != c.is) {
			t.Error(name, "meets")
		}
	}
	if l := example(); !ash.Meets(l[0], l[2]) || !ash.Meets(l[0], l[1]) {
		t.Error("the example")
	}
}

// P4.1: Common has the values that all bands have, and no other ones; it takes any number of ashes.
func TestCommonOfMany(t *testing.T) {
	d := dice(1)
	var shared, unlike int
	for range 3000 {
		var l []api.Ash
		for range 1 + d.IntN(12) {
			var a api.Ash
			for i := range a.Grain {
				a.Grain[i] = api.Band{Lo: d.IntN(16), Hi: 14 + d.IntN(16)}
			}
			l = append(l, a)
		}
		got, is := ash.Common(l)
		if is != areAlike(l...) || !is && got != [3]api.Band{} {
			t.Fatal(l, got, is)
		}
		if !is {
			unlike++
			continue
		}
		shared++
		for i, b := range got {
			for value := range 31 {
				one := api.Ash{Grain: l[0].Grain}
				one.Grain[i] = api.Band{Lo: value, Hi: value}
				if areAlike(append(l, one)...) != (b.Lo <= value && value <= b.Hi) {
					t.Fatal(l, got, value)
				}
			}
		}
	}
	if shared < 300 || unlike < 300 {
		t.Error("too little was tried", shared, unlike)
	}
}

package years_test

import (
	"slices"
	"testing"

	"gyttja/api"
	"gyttja/years"
)

type outcome struct {
	e    api.Errno
	zero bool // all other results are zero values
}

// outcomes calls each function that tells an error.
func outcomes(w api.World, v api.Event, n, m int) map[string]outcome {
	l, r, x := []api.Event{v, event(n, m, m)}, api.Run{Lo: n, Hi: m}, []int{n, m, 3}
	size, noSize := years.Size([]api.Run{r, {Lo: m, Hi: n}})
	when, noWhen := years.When(w, v, n)
	apart, noApart := years.Apart(w, v, l[1])
	order, noWhich := years.Which(w, l[1], v)
	attained, years1, noAttain := years.Attain(w, v, n, m)
	least, most, noCount := years.Count(w, l, v.Mark, r)
	choices, years2, noWithin := years.Within(w, l, n, r, []bool{n > 0, m > 0})
	made, noMake := years.Make(n, m)
	mean, noMean := years.Mean(x)
	moving, noMoving := years.Moving(x, m)
	at, peak, noPeak := years.Peak(x, n)
	lowest, greatest, noRate := years.Rate(n, m, m, n)
	return map[string]outcome{
		"CheckRuns":  {years.CheckRuns([]api.Run{r}), true},
		"Size":       {noSize, size == 0},
		"CheckEvent": {years.CheckEvent(v), true},
		"When":       {noWhen, len(when) == 0},
		"Apart":      {noApart, len(apart) == 0},
		"Which":      {noWhich, order == api.Order{}},
		"Attain":     {noAttain, len(attained) == 0 && len(years1) == 0},
		"Count":      {noCount, least == 0 && most == 0},
		"Within":     {noWithin, len(choices) == 0 && len(years2) == 0},
		"Make":       {noMake, made == api.Frac{}},
		"Mean":       {noMean, mean == api.Frac{}},
		"Moving":     {noMoving, len(moving) == 0},
		"Peak":       {noPeak, at == 0 && peak == api.Frac{}},
		"Rate":       {noRate, lowest == api.Frac{} && greatest == api.Frac{}},
	}
}

// P1, R2: no function panics, whatever its arguments are; beside an error all else is zero; what is no error is a set in normal form, or a fraction.
func TestAnyArguments(t *testing.T) {
	w, v, u := example()
	worlds := []api.World{{}, w, broken(), loose(), gapped()}
	for _, bad := range badWorlds() {
		worlds = append(worlds, bad)
	}
	for _, n := range extremes {
		for _, m := range extremes {
			strange := api.World{Claims: []api.Claim{claim(n, m, m, n, m)}, Questions: []api.Question{{By: n, Choices: [][]api.Claim{{claim(m, n, n, m, n)}, nil}}}}
			l, k := runs(n, m, m, n, 3, 5), runs(m, m, n-1, m+1)
			for _, set := range [][]api.Run{years.Normal(l), years.Union(l, k), years.Common(l, k), years.Less(l, k), years.Spread(l, n, m), years.Spread(k, m, n)} {
				if !isNormal(set) {
					t.Error(l, k, set)
				}
			}
			years.Has(l, n)
			years.Cmp(frac(n, m), frac(m, n))
			for _, w := range append(worlds, strange) {
				for _, v := range []api.Event{v, u, {Id: n, Kind: m, Mark: n, Lo: m, Hi: n}, {Id: 1, Mark: n, Lo: n, Hi: m}} {
					for function, o := range outcomes(w, v, n, m) {
						if o.e != api.OK && !o.zero {
							t.Error(function, w, v, n, m, o)
						}
					}
				}
			}
		}
	}
}

// R3: empty lists in place of nil change nothing.
func TestEmptyLists(t *testing.T) {
	empty := api.World{Claims: []api.Claim{}, Questions: []api.Question{{By: 2, Choices: [][]api.Claim{{}, {claim(0, 1, 2, 2, 2)}, nil}}}}
	bare := api.World{Questions: []api.Question{{By: 2, Choices: [][]api.Claim{nil, {claim(0, 1, 2, 2, 2)}, {}}}}}
	for _, n := range []int{0, 1, 2} {
		one, other := outcomes(empty, event(1, 0, n), n, 1), outcomes(bare, event(1, 0, n), n, 1)
		for function := range one {
			if one[function] != other[function] {
				t.Error(function, one[function], other[function])
			}
		}
	}
	for _, l := range [][]api.Run{nil, {}} {
		if n, e := years.Size(l); n != 0 || e != api.OK || len(years.Normal(l)) > 0 || len(years.Spread(l, -1, 1)) > 0 || !slices.Equal(years.Union(l, runs(1, 2)), runs(1, 2)) {
			t.Error(l, n, e)
		}
	}
	for _, l := range [][]api.Event{nil, {}} {
		least, most, e := years.Count(empty, l, 1, api.Run{})
		choices, d, f := years.Within(empty, l, 1, api.Run{}, []bool{})
		if least != 0 || most != 0 || e != api.OK || f != api.OK || !isChronology(empty, choices, d) {
			t.Error(l, least, most, e, choices, d, f)
		}
	}
}

// R4: no argument is changed, and no result shares memory with one.
func TestMemory(t *testing.T) {
	for _, c := range []struct{ a, b []api.Run }{
		{runs(1, 2, 5, 6), runs(2, 9)}, {runs(5, 6, 1, 2, 4, 4), runs(9, 8, 2, 3)}, {runs(-far, far), runs(0, 0)}, {runs(1, 2), nil}, {runs(-2*far, 2*far), runs(1, 1)},
	} {
		a, b := slices.Clone(c.a), slices.Clone(c.b)
		years.CheckRuns(a)
		years.Size(a)
		years.Has(a, 2)
		for _, l := range [][]api.Run{years.Normal(a), years.Union(a, b), years.Union(b, a), years.Common(a, b), years.Less(a, b), years.Spread(a, 0, 0), years.Spread(a, -1, 1)} {
			for i := range l {
				l[i] = api.Run{Lo: 77, Hi: 77}
			}
			_ = append(l, api.Run{Lo: 77, Hi: 77})
		}
		if !slices.Equal(a, c.a) || !slices.Equal(b, c.b) {
			t.Error(a, b, c)
		}
	}
	w, _, _ := example()
	for _, w := range []api.World{w, loose(), gapped()} {
		keep := copyOf(w)
		mark := marksOf(w)[0]
		v, in := event(mark, 0, 3), []bool{true, false}
		l := []api.Event{v, event(marksOf(w)[1], -2, 0)}
		keepEvents := slices.Clone(l)
		years.When(w, v, mark)
		years.Apart(w, v, v)
		years.Which(w, v, v)
		years.Count(w, l, mark, api.Run{Lo: 0, Hi: 5})
		choices, d, _ := years.Attain(w, v, mark, 2)
		for i := range choices {
			choices[i] = 77
		}
		for i := range d {
			d[i].Year = 77
		}
		choices, d, e := years.Within(w, l, mark, api.Run{Lo: 0, Hi: 5}, in)
		if e != api.OK {
			t.Error(w, e)
		}
		for i := range choices {
			choices[i] = 77
		}
		for i := range d {
			d[i].Year = 77
		}
		if !sameWorlds(w, keep) || !slices.Equal(l, keepEvents) || !slices.Equal(in, []bool{true, false}) {
			t.Error(w, l, in)
		}
	}
	x := []int{4, 1, 9}
	years.Mean(x)
	years.Moving(x, 2)
	years.Peak(x, 2)
	if !slices.Equal(x, []int{4, 1, 9}) {
		t.Error(x)
	}
}

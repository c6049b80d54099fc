package ash_test

import (
	"slices"
	"testing"

	"gyttja/api"
	"gyttja/ash"
)

func first[T any](result T, _ api.Errno) T { return result }

type outcome struct {
	e    api.Errno
	zero bool // all other results are zero values
}

// outcomes calls each function of ashes and ties.
func outcomes(l []api.Ash, t []api.Tie, c api.Case, a, b int) map[string]outcome {
	cases, noCases := ash.Cases(l, t)
	count, noCount := ash.Count(l, t)
	first, noFirst := ash.First(l, t)
	next, noNext := ash.Next(l, t, c)
	may, noMay := ash.May(l, t)
	must, noMust := ash.Must(l, t)
	why, noWhy := ash.Why(l, t, a, b)
	return map[string]outcome{
		"CheckTies": {ash.CheckTies(l, t), true},
		"CheckCase": {ash.CheckCase(l, t, c), true},
		"Cases":     {noCases, len(cases) == 0},
		"Count":     {noCount, count == 0},
		"First":     {noFirst, len(first.Falls) == 0},
		"Next":      {noNext, len(next.Falls) == 0},
		"May":       {noMay, len(may) == 0},
		"Must":      {noMust, len(must) == 0},
		"Why":       {noWhy, why == 0},
	}
}

// withoutTies calls each function of ashes that has no ties.
func withoutTies(l []api.Ash, c api.Case, by int) map[string]outcome {
	order, noOrder := ash.Order(l, c)
	round, noRound := ash.Round(l, c)
	claims, noClaims := ash.Claims(l, c, by)
	return map[string]outcome{
		"Check":  {ash.Check(l), true},
		"Order":  {noOrder, len(order) == 0},
		"Round":  {noRound, len(round) == 0},
		"Claims": {noClaims, len(claims) == 0},
	}
}

// P1, R1, R2: each function of ashes has ErrAsh first, and each of ties then ErrTie, with zero values beside it.
func TestErrorsFirst(t *testing.T) {
	good, bad := exampleCases()[0], of([]int{1, 1})
	for name, l := range badLists() {
		for _, ties := range [][]api.Tie{nil, badTies()["turned"]} {
			for _, c := range []api.Case{good, bad} {
				for function, o := range outcomes(l, ties, c, 1, 1) {
					if o.e != api.ErrAsh || !o.zero {
						t.Error(function, name, o)
					}
				}
				for function, o := range withoutTies(l, c, 0) {
					if o.e != api.ErrAsh || !o.zero {
						t.Error(function, name, o)
					}
				}
			}
		}
	}
	for name, ties := range badTies() {
		for _, c := range []api.Case{good, bad} {
			for function, o := range outcomes(example(), ties, c, 1, 1) {
				if o.e != api.ErrTie || !o.zero {
					t.Error(function, name, o)
				}
			}
		}
	}
}

// P1, R2: no function panics, whatever its arguments are; beside an error all else is zero.
func TestAnyArguments(t *testing.T) {
	for _, a := range extremes {
		for _, b := range extremes {
			odd := []api.Ash{{Id: a, Mark: b, Grain: [3]api.Band{{Lo: a, Hi: b}, {Lo: b, Hi: a}, {Lo: a, Hi: a}}}, {Id: b, Mark: a, Grain: grain(b, b)}}
			ties := []api.Tie{{A: a, B: b, Same: true}, {A: b, B: a}}
			cases := []api.Case{{}, of(nil), of([]int{a}, []int{b}), of([]int{a, b}), of([]int{1, a}, []int{2, b}), exampleCases()[2]}
			ash.Common(odd)
			ash.Meets(odd[0], odd[1])
			for i, l := range [][]api.Ash{nil, {}, example(), odd, odd[:1], append(example(), odd[1])} {
				for j, c := range cases {
					ash.Compare(c, cases[(i+j)%len(cases)])
					ash.Finer(c, cases[(i+j)%len(cases)])
					for _, ties := range [][]api.Tie{nil, ties[:1], ties} {
						for function, o := range outcomes(l, ties, c, a, b) {
							if o.e != api.OK && !o.zero {
								t.Error(function, l, ties, c, a, b, o)
							}
						}
					}
					for function, o := range withoutTies(l, c, a) {
						if o.e != api.OK && !o.zero {
							t.Error(function, l, c, a, o)
						}
					}
				}
			}
		}
	}
}

// R4: no argument is changed, whatever is done to a result; no two results share memory.
func TestMemory(t *testing.T) {
	l, ties, c := example(), []api.Tie{same(2, 4)}, exampleCases()[0]
	cases := first(ash.Cases(l, nil))
	for _, x := range append(slices.Clone(cases), first(ash.First(l, ties)), first(ash.Next(l, ties, c))) {
		for i := range x.Falls {
			_ = append(x.Falls[i], 77)
			x.Falls[i][0] += 100
		}
	}
	for i, x := range exampleCases() {
		for f := range x.Falls {
			x.Falls[f][0] += 100
		}
		if !sameCase(cases[i], x) {
			t.Error(cases[i])
		}
	}
	for _, p := range [][]api.Pair{first(ash.May(l, ties)), first(ash.Must(l, ties))} {
		p[0].I = 77
	}
	first(ash.Claims(l, c, 1))[0].A = 77
	first(ash.Order(l, c))[0] = 77
	first(ash.Round(l, of([]int{1, 4}, []int{2, 3})))[0] = 77
	common, _ := ash.Common(l)
	common[0].Lo = 77
	ash.CheckTies(l, ties)
	ash.CheckCase(l, ties, c)
	ash.Count(l, ties)
	ash.Why(l, ties, 1, 4)
	turned := of([]int{3}, []int{1})
	ash.Compare(turned, of([]int{1}, []int{3}))
	ash.Finer(turned, of([]int{1}, []int{3}))
	if !slices.Equal(l, example()) || !slices.Equal(ties, []api.Tie{same(2, 4)}) || !sameCase(c, exampleCases()[0]) || !sameCase(turned, of([]int{3}, []int{1})) {
		t.Error(l, ties, c, turned)
	}
	if again, e := ash.Cases(l, nil); e != api.OK || !sameCases(again, exampleCases()) {
		t.Error(again, e)
	}
}

// R3: nil and empty lists are the same.
func TestNilAndEmpty(t *testing.T) {
	l, c := example(), exampleCases()[0]
	for function, o := range outcomes(l, nil, c, 1, 3) {
		if p := outcomes(l, []api.Tie{}, c, 1, 3)[function]; o != p || o.e != api.OK {
			t.Error(function, o, p)
		}
	}
	empty := api.Case{Falls: [][]int{}}
	for function, o := range outcomes(nil, nil, api.Case{}, 1, 3) {
		if p := outcomes([]api.Ash{}, []api.Tie{}, empty, 1, 3)[function]; o != p {
			t.Error(function, o, p)
		}
	}
	for _, none := range [][]int{nil, {}} {
		if e := ash.CheckCase(l, nil, of([]int{1, 3}, none, []int{2, 4})); e != api.ErrCase {
			t.Error(e)
		}
	}
}

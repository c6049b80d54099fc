package ash_test

import (
	"math/rand/v2"
	"slices"
	"testing"

	"gyttja/api"
	"gyttja/ash"
)

// P4.1: Order and Round of the chapter's examples.
func TestOrderExample(t *testing.T) {
	l := example()
	if round, e := ash.Round(l, of([]int{1, 4}, []int{2, 3})); e != api.OK || !slices.Equal(round, []int{0, 1}) {
		t.Error(round, e)
	}
	if order, e := ash.Order(l, of([]int{1, 4}, []int{2, 3})); e != api.ErrRound || len(order) != 0 {
		t.Error(order, e)
	}
	if order, e := ash.Order(l, of([]int{1, 3}, []int{2}, []int{4})); e != api.OK || !slices.Equal(order, []int{0, 1, 2}) {
		t.Error(order, e)
	}
	if round, e := ash.Round(l, of([]int{1, 3}, []int{2}, []int{4})); e != api.ErrNone || len(round) != 0 {
		t.Error(round, e)
	}
	for _, l := range [][]api.Ash{nil, {}} {
		if order, e := ash.Order(l, api.Case{}); e != api.OK || len(order) != 0 {
			t.Error(order, e)
		}
		if round, e := ash.Round(l, api.Case{}); e != api.ErrNone || len(round) != 0 {
			t.Error(round, e)
		}
	}
}

// P4.1: orders and rounds that are known.
func TestKnownOrders(t *testing.T) {
	// Marks of the cores 0, 1, ..: above, below.
	a, b := func(core int) int { return 64*core + 1 }, func(core int) int { return 64*core + 64 }
	for name, x := range map[string]struct {
		marks        []int
		c            api.Case
		order, round []int
	}{
		"Ids against marks":         {[]int{9, 5, 1}, of([]int{1}, []int{2}, []int{3}), []int{2, 1, 0}, nil},
		"other cores are no matter": {[]int{64, 65, 1, 128}, of([]int{1}, []int{2}, []int{3}, []int{4}), []int{1, 2, 0, 3}, nil},
		"a fall of one core":        {[]int{1, 5, 9}, of([]int{1, 2}, []int{3}), []int{0, 1}, nil},
		"a fall around another":     {[]int{1, 5, 9}, of([]int{1, 3}, []int{2}), nil, []int{0, 1}},
		"one fall of all":           {[]int{1, 5, 9}, of([]int{1, 2, 3}), []int{0}, nil},
		"three falls":               {[]int{a(0), b(0), a(1), b(1), a(2), b(2)}, of([]int{1, 6}, []int{2, 3}, []int{4, 5}), nil, []int{0, 1, 2}},
		"three falls, other way":    {[]int{b(0), a(0), b(1), a(1), b(2), a(2)}, of([]int{1, 6}, []int{2, 3}, []int{4, 5}), nil, []int{0, 2, 1}},
		"four falls":                {[]int{a(0), b(0), a(1), b(1), a(2), b(2), a(3), b(3)}, of([]int{1, 8}, []int{2, 3}, []int{4, 5}, []int{6, 7}), nil, []int{0, 1, 2, 3}},
		"four falls below another":  {[]int{a(9), b(0), b(1), a(1), b(2), a(2), b(3), a(3), a(0)}, of([]int{1}, []int{2, 8}, []int{3, 9}, []int{4, 5}, []int{6, 7}), nil, []int{1, 4, 3, 2}},
		"two rounds, the last less": {[]int{a(0), b(0), a(1), b(1), a(2), b(2), a(3), b(3), a(4)}, of([]int{1, 6}, []int{2, 3}, []int{4, 5, 7}, []int{8}, []int{9}), nil, []int{0, 1, 2}},
		"two rounds of two":         {[]int{a(0), b(0), a(1), b(1), a(2), b(2), a(3), b(3)}, of([]int{1, 8}, []int{2, 7}, []int{3, 6}, []int{4, 5}), nil, []int{0, 1}},
		"three falls and two":       {[]int{a(0), b(0), a(1), b(1), a(2), b(2), a(3), b(3) - 1, b(3)}, of([]int{1, 6}, []int{2, 3}, []int{4, 5}, []int{7, 9}, []int{8}), nil, []int{3, 4}},
	} {
		l := marked(x.marks...)
		order, e := ash.Order(l, x.c)
		if (e == api.OK) != (x.round == nil) || !slices.Equal(order, x.order) {
			t.Error(name, order, e)
		}
		round, e := ash.Round(l, x.c)
		if (e == api.OK) != (x.order == nil) || !slices.Equal(round, x.round) {
			t.Error(name, round, e)
		}
	}
}

// roundsIn has all rounds of a deal that begin with their least index, the ones with the fewest falls first, and else in order.
func roundsIn(l []api.Ash, c api.Case) [][]int {
	var rounds [][]int
	var grow func(r []int)
	grow = func(r []int) {
		last := r[len(r)-1]
		if len(r) > 1 && above(l, c.Falls[last], c.Falls[r[0]]) {
			rounds = append(rounds, slices.Clone(r))
		}
		for f := r[0] + 1; f < len(c.Falls); f++ {
			if !slices.Contains(r, f) && above(l, c.Falls[last], c.Falls[f]) {
				grow(append(r, f))
			}
		}
	}
	for f := range c.Falls {
		grow([]int{f})
	}
	slices.SortFunc(rounds, func(r, s []int) int {
		if len(r) != len(s) {
			return len(r) - len(s)
		}
		return slices.Compare(r, s)
	})
	return rounds
}

// leastOrder takes the falls as the chapter says.
func leastOrder(l []api.Ash, c api.Case) []int {
	var order []int
	for {
		next := slices.IndexFunc(c.Falls, func(fall []int) bool {
			f := slices.IndexFunc(c.Falls, func(other []int) bool { return other[0] == fall[0] })
			if slices.Contains(order, f) {
				return false
			}
			for g, other := range c.Falls {
				if g != f && !slices.Contains(order, g) && above(l, other, fall) {
					return false
				}
			}
			return true
		})
		if next < 0 {
			return order
		}
		order = append(order, next)
	}
}

// isInOrder says of a list whether it has all falls, and none behind one that it is above.
func isInOrder(l []api.Ash, c api.Case, order []int) bool {
	if len(order) != len(c.Falls) {
		return false
	}
	for i, f := range order {
		if f < 0 || f >= len(c.Falls) || slices.Contains(order[:i], f) {
			return false
		}
		for _, g := range order[:i] {
			if above(l, c.Falls[f], c.Falls[g]) {
				return false
			}
		}
	}
	return true
}

// someOrder tries all lists of falls.
func someOrder(l []api.Ash, c api.Case, list []int) bool {
	if isInOrder(l, c, list) {
		return true
	}
	for f := range c.Falls {
		if !slices.Contains(list, f) && someOrder(l, c, append(list, f)) {
			return true
		}
	}
	return false
}

// P4.1, P4.3: Order returns a list of all falls, as it is described, or Round returns the least one of the shortest rounds; there is one of both.
func TestOrderOrRound(t *testing.T) {
	d := dice(3)
	orders, rounds := 0, map[int]int{}
	for range 6000 {
		l := someAshes(d, 9)
		c := someDeal(d, l)
		if d.IntN(4) == 0 {
			l, c = someRing(d)
		}
		order, noOrder := ash.Order(l, c)
		round, noRound := ash.Round(l, c)
		all := roundsIn(l, c)
		if (len(all) > 0) != hasRound(l, c) {
			t.Fatal(l, c, all)
		}
		if len(c.Falls) < 6 && someOrder(l, c, nil) != (len(all) == 0) {
			t.Fatal(l, c, all)
		}
		if len(all) == 0 {
			orders++
			if noOrder != api.OK || !slices.Equal(order, leastOrder(l, c)) || !isInOrder(l, c, order) || noRound != api.ErrNone || len(round) != 0 {
				t.Fatal(l, c, order, noOrder, round, noRound)
			}
			continue
		}
		rounds[len(all[0])]++
		if noOrder != api.ErrRound || len(order) != 0 || noRound != api.OK || !slices.Equal(round, all[0]) {
			t.Fatal(l, c, order, noOrder, round, noRound, all[0])
		}
	}
	if orders < 500 || rounds[2] < 500 || rounds[3] < 50 || rounds[4] < 50 {
		t.Error("too little was tried", orders, rounds)
	}
}

func someDeal(d *rand.Rand, l []api.Ash) api.Case {
	var c api.Case
	most := 1 + d.IntN(9)
	for _, a := range l {
		f := d.IntN(min(most, len(c.Falls)+1))
		if f == len(c.Falls) {
			c.Falls = append(c.Falls, nil)
		}
		c.Falls[f] = append(c.Falls[f], a.Id)
	}
	return c
}

// someRing has two to four falls each of which is above the next one in a core of theirs, and more ashes, each of which is a fall or is in one of the ring.
func someRing(d *rand.Rand) ([]api.Ash, api.Case) {
	n := 2 + d.IntN(3)
	var marks, falls []int
	for core := range n {
		marks = append(marks, 64*core+1+d.IntN(9), 64*core+11+d.IntN(9))
		falls = append(falls, core, (core+1)%n)
	}
	for len(marks) < 9 {
		marks = append(marks, 64*d.IntN(5)+21+len(marks))
		falls = append(falls, d.IntN(len(marks)))
	}
	l := marked(marks...)
	members := make([][]int, 9)
	for i, at := range d.Perm(9) {
		l[i].Mark = marks[at]
		members[falls[at]] = append(members[falls[at]], l[i].Id)
	}
	members = slices.DeleteFunc(members, func(fall []int) bool { return len(fall) == 0 })
	slices.SortFunc(members, slices.Compare[[]int])
	return l, of(members...)
}

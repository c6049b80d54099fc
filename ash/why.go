package ash

import (
	"cmp"
	"slices"

	"gyttja/api"
)

// shared returns the pairs of ashes of which the number of cases that have them in one fall is right; it is asked beside the number of all cases.
func shared(l []api.Ash, t []api.Tie, isRight func(together, cases int) bool) ([]api.Pair, api.Errno) {
	d, e := dealerOf(l, t)
	if e != api.OK {
		return nil, e
	}
	cases := 0
	together := map[[2]int]int{}
	for growth := range d.deals(nil) {
		cases++
		for i, fall := range growth {
			for j, other := range growth[:i] {
				if fall == other {
					together[[2]int{l[j].Id, l[i].Id}]++
				}
			}
		}
	}
	if cases == 0 {
		return nil, api.ErrNone
	}
	var pairs []api.Pair
	for ids, n := range together {
		if isRight(n, cases) {
			pairs = append(pairs, api.Pair{I: ids[0], J: ids[1]})
		}
	}
	slices.SortFunc(pairs, func(p, q api.Pair) int { return cmp.Or(cmp.Compare(p.I, q.I), cmp.Compare(p.J, q.J)) })
	return pairs, api.OK
}

// May returns the pairs that are one fall in some case.
func May(l []api.Ash, t []api.Tie) ([]api.Pair, api.Errno) {
	return shared(l, t, func(together, _ int) bool { return together > 0 })
}

// Must returns the pairs that are one fall in all cases.
func Must(l []api.Ash, t []api.Tie) ([]api.Pair, api.Errno) {
	return shared(l, t, func(together, cases int) bool { return together == cases })
}

// Why tells why two ashes cannot be one fall.
func Why(l []api.Ash, t []api.Tie, a, b int) (int, api.Errno) {
	d, e := dealerOf(l, t)
	if e != api.OK {
		return 0, e
	}
	i, j := indexOf(l, max(a, b)), indexOf(l, min(a, b))
	if i == none || j == none || i == j {
		return 0, api.ErrAsh
	}
	reasons := [...]func(dealer, int, int) bool{
		api.WhyCore:  dealer.isOneCore,
		api.WhyGrain: dealer.isUnlike,
		api.WhyTie:   dealer.isTiedApart,
		api.WhyOrder: dealer.isNever,
	}
	for why := api.WhyCore; why < len(reasons); why++ {
		if reasons[why](d, i, j) {
			return why, api.OK
		}
	}
	return api.WhyNot, api.OK
}

func (d dealer) isOneCore(i, j int) bool { return coreOf(d.ashes[i]) == coreOf(d.ashes[j]) }

func (d dealer) isUnlike(i, j int) bool { return !Meets(d.ashes[i], d.ashes[j]) }

func (d dealer) isTiedApart(i, j int) bool {
	d.anyOrder = true
	return d.isNever(i, j)
}

// isNever reports whether no deal has an ash and one ahead of it in one fall.
func (d dealer) isNever(i, j int) bool {
	d.joined[i][j] = true
	for range d.deals(nil) {
		return false
	}
	return true
}

package ash

import (
	"slices"

	"gyttja/api"
)

// growthOf returns the growth string of a case, and whether it is a deal of the ashes with these rising Ids.
func growthOf(ids []int, c api.Case) ([]int, bool) {
	growth := slices.Repeat([]int{none}, len(ids))
	firstId := 0
	for index, fall := range c.Falls {
		if len(fall) == 0 || fall[0] <= firstId {
			return nil, false
		}
		firstId = fall[0]
		lastId := 0
		for _, id := range fall {
			i, is := slices.BinarySearch(ids, id)
			if !is || id <= lastId {
				return nil, false
			}
			lastId = id
			if growth[i] != none {
				return nil, false
			}
			growth[i] = index
		}
	}
	return growth, !slices.Contains(growth, none)
}

// caseOf is the case with a growth string.
func caseOf(l []api.Ash, growth []int) api.Case {
	falls := make([][]int, fallsIn(growth))
	for i, fall := range growth {
		falls[fall] = append(falls[fall], l[i].Id)
	}
	return api.Case{Falls: falls}
}

// fallsIn is the number of falls in a growth string, or in the beginning of one.
func fallsIn(growth []int) int {
	falls := 0
	for _, fall := range growth {
		falls = max(falls, fall+1)
	}
	return falls
}

func idsOf(l []api.Ash) []int {
	var ids []int
	for _, a := range l {
		ids = append(ids, a.Id)
	}
	return ids
}

// open returns the growth string of a deal of ashes, or the error that all functions of ashes and a case have.
func open(l []api.Ash, c api.Case) ([]int, api.Errno) {
	if e := Check(l); e != api.OK {
		return nil, e
	}
	growth, is := growthOf(idsOf(l), c)
	if !is {
		return nil, api.ErrCase
	}
	return growth, api.OK
}

// growths returns the growth strings of two cases, and whether both are deals of one list of ashes.
func growths(c, d api.Case) (ofC, ofD []int, are bool) {
	ids := slices.Concat(c.Falls...)
	slices.Sort(ids)
	if !mayBeIds(ids) {
		return nil, nil, false
	}
	ofC, isC := growthOf(ids, c)
	ofD, isD := growthOf(ids, d)
	return ofC, ofD, isC && isD
}

// mayBeIds reports whether some valid list of ashes has these Ids, if they rise. Marks and bands that are in their limits can be found for all of them.
func mayBeIds(ids []int) bool {
	return len(ids) <= api.MaxAsh && !slices.ContainsFunc(ids, func(id int) bool { return !within(id, 1, api.MaxSource) })
}

// Compare compares two cases of the same ashes.
func Compare(c, d api.Case) int {
	ofC, ofD, are := growths(c, d)
	if !are {
		return 0
	}
	return slices.Compare(ofC, ofD)
}

// Finer reports whether each fall of a case is within one of another case.
func Finer(c, d api.Case) bool {
	ofC, ofD, are := growths(c, d)
	if !are {
		return false
	}
	for i := range ofC {
		for j := range i {
			if ofC[i] == ofC[j] && ofD[i] != ofD[j] {
				return false
			}
		}
	}
	return true
}

// Claims returns the claims of a case.
func Claims(l []api.Ash, c api.Case, by int) ([]api.Claim, api.Errno) {
	if _, e := open(l, c); e != api.OK {
		return nil, e
	}
	if !within(by, 1, api.MaxSource) {
		return nil, api.ErrCase
	}
	markOf := func(id int) int { return l[indexOf(l, id)].Mark }
	var claims []api.Claim
	for _, fall := range c.Falls {
		for _, id := range fall[1:] {
			claims = append(claims, api.Claim{A: markOf(fall[0]), B: markOf(id), By: by})
		}
	}
	return claims, api.OK
}

package sheet

import (
	"slices"

	"gyttja/api"
	"gyttja/pick"
)

// Read returns the thicknesses of the years of one reading of rows.
func Read(rows []api.Row, picks []int) ([]int, api.Errno) {
	list, e := natures(rows)
	if e != api.OK {
		return nil, e
	}
	var years []int
	taken := 0
	for _, n := range list {
		count := n.lo
		if n.choice {
			count += pick.Index(picks, taken, n.hi-n.lo+1)
			taken++
		}
		years = append(years, yearsOf(n, count)...)
	}
	return years, api.OK
}

// yearsOf returns the thicknesses of so many years of a row.
func yearsOf(n nature, count int) []int {
	if n.hides {
		return make([]int, count)
	}
	if count < len(n.layers) {
		return []int{sum(n.layers)}
	}
	return n.layers
}

// IsReading reports whether a list is a reading of rows.
func IsReading(rows []api.Row, years []int) bool {
	list, e := natures(rows)
	if e != api.OK {
		return false
	}
	rest := years
	lo, hi := 0, 0 // hidden years that may stand ahead of the next layer
search:
	for _, n := range list {
		if n.hides {
			lo += n.lo
			hi += n.hi
			continue
		}
		if len(n.layers) == 0 {
			continue
		}
		// Years of layers are never 0 thick: all zeros are hidden years, and no choice is ever taken back.
		zeros := hidden(rest)
		if !within(zeros, lo, hi) {
			return false
		}
		rest, lo, hi = rest[zeros:], 0, 0
		for count := n.lo; count <= n.hi; count++ {
			if way := yearsOf(n, count); startsWith(rest, way) {
				rest = rest[len(way):]
				continue search
			}
		}
		return false
	}
	zeros := hidden(rest)
	return zeros == len(rest) && within(zeros, lo, hi)
}

// hidden is the number of hidden years at the beginning.
func hidden(years []int) int {
	first := slices.IndexFunc(years, func(n int) bool { return n != 0 })
	if first < 0 {
		return len(years)
	}
	return first
}

func startsWith(years, first []int) bool {
	return len(first) <= len(years) && slices.Equal(years[:len(first)], first)
}

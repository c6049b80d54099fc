package sheet

import (
	"slices"

	"gyttja/api"
)

// Rows returns the rows between two marks.
func Rows(s api.Sheet, a, b int) ([]api.Row, api.Errno) {
	if e := checkInside(s, a, b); e != api.OK {
		return nil, e
	}
	return slices.Clone(s.Rows[rowOf(s, a)+1 : rowOf(s, b)]), api.OK
}

// Splice replaces the rows between two marks.
func Splice(s api.Sheet, a, b int, rows []api.Row) (api.Sheet, api.Errno) {
	if e := checkInside(s, a, b); e != api.OK {
		return api.Sheet{}, e
	}
	result := s
	result.Rows = slices.Concat(s.Rows[:rowOf(s, a)+1], rows, s.Rows[rowOf(s, b):])
	if e := Check(result); e != api.OK {
		return api.Sheet{}, e
	}
	return result, api.OK
}

// checkInside returns the error of a sheet, and of two marks that must have an inside.
func checkInside(s api.Sheet, a, b int) api.Errno {
	if e := checkEnds(s, a, b); e != api.OK {
		return e
	}
	if b <= a {
		return api.ErrOrder
	}
	return api.OK
}

// Cut returns the part of a sheet from a mark to another one.
func Cut(s api.Sheet, a, b int) (api.Sheet, api.Errno) {
	if e := checkEnds(s, a, b); e != api.OK {
		return api.Sheet{}, e
	}
	if b < a {
		return api.Sheet{}, api.ErrOrder
	}
	result := s
	result.Rows = slices.Clone(s.Rows[rowOf(s, a) : rowOf(s, b)+1])
	return result, api.OK
}

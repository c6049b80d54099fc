// Package sheet is layer 1: see shared/doc/01-sheet.md.
package sheet

import (
	"iter"
	"slices"

	"gyttja/api"
)

// none stands for a mark, a core or a number of a mark that there is not.
const none = -1

// Check reports whether a sheet is valid.
func Check(s api.Sheet) api.Errno {
	if !within(s.Id, 1, api.MaxSource) || !within(s.Reader, 1, api.MaxReader) || !within(s.Core, 0, api.MaxCores-1) {
		return api.ErrSheet
	}
	if _, e := natures(s.Rows); e != api.OK {
		return e
	}
	for above, r := range rowsBelow(s) {
		if r.Kind == api.RowMark && Mark(s.Core, r.N) <= above {
			return api.ErrOrder
		}
	}
	return api.OK
}

// rowsBelow ranges over the rows of a sheet, each with the mark above it.
func rowsBelow(s api.Sheet) iter.Seq2[int, api.Row] {
	return func(yield func(int, api.Row) bool) {
		above := none
		for _, r := range s.Rows {
			if !yield(above, r) {
				return
			}
			if r.Kind == api.RowMark {
				above = Mark(s.Core, r.N)
			}
		}
	}
}

// Mark is the number of a core's mark.
func Mark(core, no int) int {
	if !within(core, 0, api.MaxCores-1) || !within(no, 0, api.MarksOf-1) {
		return none
	}
	return api.MarksOf*core + no + 1
}

// Place is a mark's core, and its number there.
func Place(mark int) (core, no int) {
	if !within(mark, 1, api.MaxMark) {
		return none, none
	}
	return (mark - 1) / api.MarksOf, (mark - 1) % api.MarksOf
}

// Marks returns a sheet's marks, from above to below.
func Marks(s api.Sheet) []int {
	if Check(s) != api.OK {
		return nil
	}
	var marks []int
	for _, r := range rowsBelow(s) {
		if r.Kind == api.RowMark {
			marks = append(marks, Mark(s.Core, r.N))
		}
	}
	return marks
}

// Spans returns the spans between neighbouring marks.
func Spans(s api.Sheet) []api.Span {
	if Check(s) != api.OK {
		return nil
	}
	known := kinds()
	var spans []api.Span
	lo, hi := 0, 0
	for above, r := range rowsBelow(s) {
		if r.Kind != api.RowMark {
			n := natureOf(known, r)
			lo += n.lo
			hi += n.hi
			continue
		}
		if above != none {
			spans = append(spans, api.Span{A: above, B: Mark(s.Core, r.N), Lo: lo, Hi: hi})
		}
		lo, hi = 0, 0
	}
	return spans
}

// Between returns the span between two marks.
func Between(s api.Sheet, a, b int) (api.Span, api.Errno) {
	if e := checkEnds(s, a, b); e != api.OK {
		return api.Span{}, e
	}
	spans := Spans(s)
	if b < a {
		lo, hi := yearsFrom(spans, b, a)
		return api.Span{A: a, B: b, Lo: -hi, Hi: -lo}, api.OK
	}
	lo, hi := yearsFrom(spans, a, b)
	return api.Span{A: a, B: b, Lo: lo, Hi: hi}, api.OK
}

// checkEnds returns the error of a sheet, and of two marks that it must have.
func checkEnds(s api.Sheet, a, b int) api.Errno {
	if e := Check(s); e != api.OK {
		return e
	}
	if rowOf(s, a) == none || rowOf(s, b) == none {
		return api.ErrMark
	}
	return api.OK
}

// rowOf is the index of the row of a mark in a valid sheet.
func rowOf(s api.Sheet, mark int) int {
	core, no := Place(mark)
	if core != s.Core {
		return none
	}
	return slices.Index(s.Rows, api.Row{Kind: api.RowMark, N: no})
}

// yearsFrom adds up the spans of a sheet from the mark a down to the mark b: marks of a core rise downwards.
func yearsFrom(spans []api.Span, a, b int) (lo, hi int) {
	for _, p := range spans {
		if a <= p.A && p.B <= b {
			lo += p.Lo
			hi += p.Hi
		}
	}
	return lo, hi
}

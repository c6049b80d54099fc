package sheet

import (
	"slices"

	"gyttja/api"
)

// Meet returns the spans that two sheets of a core allow together.
func Meet(s, t api.Sheet) ([]api.Span, api.Errno) {
	return bothWhere(s, t, func(p api.Span) bool { return p.Lo <= p.Hi })
}

// Apart returns the spans of which two sheets of a core allow none in common.
func Apart(s, t api.Sheet) ([]api.Span, api.Errno) {
	return bothWhere(s, t, func(p api.Span) bool { return p.Lo > p.Hi })
}

// bothWhere returns the spans of both sheets together that are wanted.
func bothWhere(s, t api.Sheet, wanted func(api.Span) bool) ([]api.Span, api.Errno) {
	if e := checkBoth(s, t); e != api.OK {
		return nil, e
	}
	var spans []api.Span
	for _, p := range both(s, t) {
		if wanted(p) {
			spans = append(spans, p)
		}
	}
	return spans, api.OK
}

func checkBoth(s, t api.Sheet) api.Errno {
	if e := Check(s); e != api.OK {
		return e
	}
	if e := Check(t); e != api.OK {
		return e
	}
	if s.Core != t.Core {
		return api.ErrCore
	}
	return api.OK
}

// both returns, for neighbours among the marks that both sheets have, the greater Lo and the lesser Hi.
func both(s, t api.Sheet) []api.Span {
	ofS, ofT := Spans(s), Spans(t)
	var spans []api.Span
	above := none
	for _, mark := range common(s, t) {
		if above != none {
			lo, hi := yearsFrom(ofS, above, mark)
			low, high := yearsFrom(ofT, above, mark)
			spans = append(spans, api.Span{A: above, B: mark, Lo: max(lo, low), Hi: min(hi, high)})
		}
		above = mark
	}
	return spans
}

// common returns the marks that both sheets have.
func common(s, t api.Sheet) []int {
	ofT := Marks(t)
	return slices.DeleteFunc(Marks(s), func(mark int) bool { return !slices.Contains(ofT, mark) })
}

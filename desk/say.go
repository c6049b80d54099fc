package desk

import (
	"gyttja/api"
	"gyttja/ash"
	"gyttja/lay"
	"gyttja/sheet"
)

// sourcesOf is the number of sources of an office: one for each Seq.
const sourcesOf = api.MaxSeq + 1

// Source is the source of what an entry says.
func Source(p api.Place) int {
	if !within(p.Office, 0, api.MaxOffices-1) || !within(p.Seq, 0, api.MaxSeq) {
		return 0
	}
	return sourcesOf*p.Office + p.Seq + 1
}

// PlaceOf is the place of the entry of a source.
func PlaceOf(by int) (api.Place, bool) {
	if !within(by, 1, sourcesOf*api.MaxOffices) {
		return api.Place{}, false
	}
	return api.Place{Office: (by - 1) / sourcesOf, Seq: (by - 1) % sourcesOf}, true
}

func checkSource(by int) api.Errno {
	if !within(by, 1, api.MaxSource) {
		return api.ErrArg
	}
	return api.OK
}

// claimOf is what a source claims by a span.
func claimOf(x api.Span, by int) api.Claim {
	return api.Claim{A: x.A, B: x.B, Lo: x.Lo, Hi: x.Hi, By: by}
}

// SheetClaims returns what a sheet claims.
func SheetClaims(s api.Sheet, by int) ([]api.Claim, api.Errno) {
	if e := checkSource(by); e != api.OK {
		return nil, e
	}
	if e := sheet.Check(s); e != api.OK {
		return nil, e
	}
	var claims []api.Claim
	for _, x := range sheet.Spans(s) {
		claims = append(claims, claimOf(x, by))
	}
	return claims, api.OK
}

// questionOf is a question with these choices.
func questionOf(choices [][]api.Claim, by int) (api.Question, api.Errno) {
	if len(choices) == 0 {
		return api.Question{}, api.ErrNone
	}
	if len(choices) > api.MaxChoices {
		return api.Question{}, api.ErrLong
	}
	return api.Question{By: by, Choices: choices}, api.OK
}

// JoinQuestion returns the question that two pieces ask.
func JoinQuestion(j api.Beside, by int) (api.Question, api.Errno) {
	if e := checkSource(by); e != api.OK {
		return api.Question{}, e
	}
	if e := checkBeside(j); e != api.OK {
		return api.Question{}, e
	}
	w, _ := lay.Weave(j.X, j.Y, j.Rule)
	offsets, _ := lay.Offsets(w)
	var choices [][]api.Claim
	for _, o := range offsets {
		below := func(mark, years int) api.Claim { return api.Claim{A: j.A, B: mark, Lo: years, Hi: years, By: by} }
		// A mark lies ahead of the first layer of its piece, or behind the last one.
		choices = append(choices, []api.Claim{below(j.B, o.XEnd+1), below(j.C, o.YTop), below(j.D, o.YEnd+1)})
	}
	return questionOf(choices, by)
}

// AshQuestion returns the question that ashes ask.
func AshQuestion(f api.Falls, by int) (api.Question, api.Errno) {
	if e := checkSource(by); e != api.OK {
		return api.Question{}, e
	}
	if e := checkFalls(f); e != api.OK {
		return api.Question{}, e
	}
	all, e := ash.Cases(f.Ashes, f.Ties)
	if e != api.OK {
		return api.Question{}, e
	}
	var choices [][]api.Claim
	for _, c := range all {
		claims, _ := ash.Claims(f.Ashes, c, by)
		choices = append(choices, claims)
	}
	return questionOf(choices, by)
}

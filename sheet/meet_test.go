package sheet_test

import (
	"slices"
	"testing"

	"gyttja/api"
	"gyttja/sheet"
)

// P1.1: spans that two sheets allow together, and those of which they allow none.
func TestMeetAndApart(t *testing.T) {
	for _, c := range []struct {
		s, t        api.Sheet
		meet, apart []api.Span
	}{
		{example(), with(mark(5), year(1), mark(9)), nil, []api.Span{{A: 134, B: 138, Lo: 3, Hi: 1}}},
		{example(), with(mark(5), gap(1, 9), mark(9)), []api.Span{{A: 134, B: 138, Lo: 3, Hi: 8}}, nil},
		{example(), with(mark(5), gap(8, 12), mark(9)), []api.Span{{A: 134, B: 138, Lo: 8, Hi: 8}}, nil},
		{example(), with(mark(5), gap(9, 12), mark(9)), nil, []api.Span{{A: 134, B: 138, Lo: 9, Hi: 8}}},
		{example(), with(mark(4), year(3), mark(6), year(7), mark(8)), nil, nil},
		{example(), with(mark(1), year(3), mark(2)), nil, nil},
		{example(), with(), nil, nil},
		{with(), with(), nil, nil},
		{
			example(), with(mark(5), year(2), mark(6), year(2), mark(7), slump(9), mark(9)),
			[]api.Span{{A: 135, B: 138, Lo: 1, Hi: 5}}, []api.Span{{A: 134, B: 135, Lo: 2, Hi: 1}},
		},
		{example(), example(), sheet.Spans(example()), nil},
		{
			with(mark(1), year(1), mark(2), year(1), mark(3), year(1), mark(4)), with(mark(1), mark(2), year(4), mark(3), mark(4)),
			[]api.Span{{A: 131, B: 132, Lo: 1, Hi: 1}}, []api.Span{{A: 130, B: 131, Lo: 1, Hi: 0}, {A: 132, B: 133, Lo: 1, Hi: 0}},
		},
	} {
		for _, two := range [][2]api.Sheet{{c.s, c.t}, {c.t, c.s}} {
			if l, e := sheet.Meet(two[0], two[1]); !slices.Equal(l, c.meet) || e != api.OK {
				t.Error("Meet", two, l, e)
			}
			if l, e := sheet.Apart(two[0], two[1]); !slices.Equal(l, c.apart) || e != api.OK {
				t.Error("Apart", two, l, e)
			}
		}
	}
}

// P1.1, R1: the errors of Meet and Apart in their order.
func TestMeetErrors(t *testing.T) {
	elsewhere := example()
	elsewhere.Core = 3
	unlike := with(mark(4), mark(4))
	unlike.Core = 3
	for _, c := range []struct {
		s, t api.Sheet
		e    api.Errno
	}{
		{example(), elsewhere, api.ErrCore},
		{elsewhere, example(), api.ErrCore},
		{example(), unlike, api.ErrOrder},
		{unlike, example(), api.ErrOrder},
		{with(year(0)), unlike, api.ErrRow},
		{unlike, with(year(0)), api.ErrOrder},
		{api.Sheet{}, with(year(0)), api.ErrSheet},
		{with(year(0)), api.Sheet{}, api.ErrRow},
	} {
		if l, e := sheet.Meet(c.s, c.t); len(l) != 0 || e != c.e {
			t.Error("Meet", c, l, e)
		}
		if l, e := sheet.Apart(c.s, c.t); len(l) != 0 || e != c.e {
			t.Error("Apart", c, l, e)
		}
	}
}

// P1.5: a number that both sheets allow lies in a span of Meet; where Apart tells a span there is no such number.
func TestMeetHasWhatBothAllow(t *testing.T) {
	d := dice(41)
	met, parted := 0, 0
	for range 400 {
		core := d.IntN(32)
		s, u := someSheet(d, core), someSheet(d, core)
		meet, e := sheet.Meet(s, u)
		apart, f := sheet.Apart(s, u)
		if e != api.OK || f != api.OK {
			t.Fatal(s, u, e, f)
		}
		shared := slices.DeleteFunc(sheet.Marks(s), func(n int) bool { return !slices.Contains(sheet.Marks(u), n) })
		spans := 0
		for i := 0; i+1 < len(shared); i++ {
			a, b := shared[i], shared[i+1]
			x, _ := sheet.Between(s, a, b)
			y, _ := sheet.Between(u, a, b)
			allowed := false
			for years := -1; years < 60; years++ {
				inBoth := x.Lo <= years && years <= x.Hi && y.Lo <= years && years <= y.Hi
				allowed = allowed || inBoth
				if inBoth != has(meet, a, b, years) {
					t.Fatal(s, u, a, b, years, meet)
				}
			}
			want := api.Span{A: a, B: b, Lo: max(x.Lo, y.Lo), Hi: min(x.Hi, y.Hi)}
			if slices.Contains(meet, want) != allowed || slices.Contains(apart, want) == allowed {
				t.Fatal(s, u, want, meet, apart)
			}
			spans++
		}
		if len(meet)+len(apart) != spans || !slices.IsSortedFunc(meet, above) || !slices.IsSortedFunc(apart, above) {
			t.Fatal(s, u, meet, apart)
		}
		met += len(meet)
		parted += len(apart)
	}
	if met == 0 || parted == 0 {
		t.Error("nothing was tried", met, parted)
	}
}

func has(l []api.Span, a, b, years int) bool {
	return slices.ContainsFunc(l, func(p api.Span) bool { return p.A == a && p.B == b && p.Lo <= years && years <= p.Hi })
}

func above(p, q api.Span) int { return p.A - q.A }

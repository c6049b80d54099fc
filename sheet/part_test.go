package sheet_test

import (
	"slices"
	"testing"

	"gyttja/api"
	"gyttja/sheet"
)

// P1.1: the rows between two marks, with the marks between them.
func TestRows(t *testing.T) {
	for _, c := range []struct {
		a, b int
		want []api.Row
	}{
		{134, 135, []api.Row{year(120), pair(80, 95)}},
		{135, 138, []api.Row{slump(2), bed(300), gap(1, 3)}},
		{134, 138, []api.Row{year(120), pair(80, 95), mark(6), slump(2), bed(300), gap(1, 3)}},
	} {
		if l, e := sheet.Rows(example(), c.a, c.b); !slices.Equal(l, c.want) || e != api.OK {
			t.Error(c, l, e)
		}
	}
	if l, e := sheet.Rows(with(mark(1), mark(2)), 130, 131); len(l) != 0 || e != api.OK {
		t.Error(l, e)
	}
}

// P1.1: marks in another order.
func TestOrder(t *testing.T) {
	for _, ends := range [][2]int{{135, 134}, {138, 134}, {138, 135}} {
		if l, e := sheet.Rows(example(), ends[0], ends[1]); len(l) != 0 || e != api.ErrOrder {
			t.Error("Rows", ends, l, e)
		}
		if s, e := sheet.Splice(example(), ends[0], ends[1], []api.Row{{}}); !isZero(s) || e != api.ErrOrder {
			t.Error("Splice", ends, s, e)
		}
		if s, e := sheet.Cut(example(), ends[0], ends[1]); !isZero(s) || e != api.ErrOrder {
			t.Error("Cut", ends, s, e)
		}
	}
	for _, a := range []int{134, 135, 138} {
		if l, e := sheet.Rows(example(), a, a); len(l) != 0 || e != api.ErrOrder {
			t.Error("Rows", a, l, e)
		}
		if s, e := sheet.Splice(example(), a, a, []api.Row{{}}); !isZero(s) || e != api.ErrOrder {
			t.Error("Splice", a, s, e)
		}
	}
}

// P1.1: Splice puts rows in the place of those between two marks.
func TestSplice(t *testing.T) {
	s := example()
	for _, c := range []struct {
		a, b      int
		rows, all []api.Row
	}{
		{134, 135, []api.Row{year(9)}, []api.Row{mark(5), year(9), mark(6), slump(2), bed(300), gap(1, 3), mark(9)}},
		{134, 135, nil, []api.Row{mark(5), mark(6), slump(2), bed(300), gap(1, 3), mark(9)}},
		{135, 138, []api.Row{mark(7), mark(8)}, []api.Row{mark(5), year(120), pair(80, 95), mark(6), mark(7), mark(8), mark(9)}},
		{134, 138, []api.Row{}, []api.Row{mark(5), mark(9)}},
		{134, 138, []api.Row{mark(7)}, []api.Row{mark(5), mark(7), mark(9)}},
	} {
		want := api.Sheet{Id: 7, Reader: 3, Core: 2, Rows: c.all}
		if got, e := sheet.Splice(s, c.a, c.b, c.rows); !same(got, want) || e != api.OK {
			t.Error(c, got, e)
		}
	}
	spliced, _ := sheet.Splice(s, 134, 135, []api.Row{year(9)})
	if l := sheet.Spans(spliced); !slices.Equal(l, []api.Span{{A: 134, B: 135, Lo: 1, Hi: 1}, {A: 135, B: 138, Lo: 1, Hi: 5}}) {
		t.Error(l)
	}
}

// P1.1: the error of what Splice would return.
func TestSpliceRefuses(t *testing.T) {
	for name, c := range map[string]struct {
		a, b int
		rows []api.Row
		e    api.Errno
	}{
		"a row that is not valid":      {134, 135, []api.Row{year(0)}, api.ErrRow},
		"a mark below both":            {134, 135, []api.Row{mark(7)}, api.ErrOrder},
		"a mark above both":            {134, 135, []api.Row{mark(4)}, api.ErrOrder},
		"the mark above":               {134, 138, []api.Row{mark(5)}, api.ErrOrder},
		"the mark below":               {134, 138, []api.Row{mark(9)}, api.ErrOrder},
		"marks that fall":              {134, 138, []api.Row{mark(8), mark(7)}, api.ErrOrder},
		"too many rows":                {134, 138, repeat(year(1), 399), api.ErrLong},
		"too many rows, not valid":     {134, 138, repeat(year(0), 399), api.ErrLong},
		"too many years":               {134, 135, append(repeat(slump(1000), 99), slump(996)), api.ErrLong},
		"too many years, and an order": {134, 135, append(repeat(slump(1000), 101), mark(0)), api.ErrLong},
	} {
		if s, e := sheet.Splice(example(), c.a, c.b, c.rows); !isZero(s) || e != c.e {
			t.Error(name, s, e)
		}
	}
	if s, e := sheet.Splice(example(), 134, 138, repeat(year(1), 398)); len(s.Rows) != 400 || e != api.OK {
		t.Error(len(s.Rows), e)
	}
	if s, e := sheet.Splice(example(), 134, 135, append(repeat(slump(1000), 99), slump(995))); len(s.Rows) != 106 || e != api.OK {
		t.Error(len(s.Rows), e)
	}
}

// P1.4: Splice of the rows of Rows returns the sheet, and Rows of Splice are the rows that were put there.
func TestSpliceAndRows(t *testing.T) {
	d := dice(31)
	for range 300 {
		s := someSheet(d, d.IntN(32))
		marks := sheet.Marks(s)
		for i, a := range marks {
			for _, b := range marks[i+1:] {
				rows, _ := sheet.Rows(s, a, b)
				if back, e := sheet.Splice(s, a, b, rows); !same(back, s) || e != api.OK {
					t.Fatal(s, a, b, back, e)
				}
				_, above := sheet.Place(a)
				_, below := sheet.Place(b)
				put := []api.Row{someRow(d)}
				if below-above > 1 {
					put = append(put, mark(above+1+d.IntN(below-above-1)), someRow(d))
				}
				put = put[:d.IntN(len(put)+1)]
				spliced, e := sheet.Splice(s, a, b, put)
				if e != api.OK {
					t.Fatal(s, a, b, put, e)
				}
				if got, e := sheet.Rows(spliced, a, b); !slices.Equal(got, put) || e != api.OK {
					t.Fatal(s, a, b, put, got, e)
				}
			}
		}
	}
}

// P1.1: Cut keeps both marks, and what is between them.
func TestCut(t *testing.T) {
	for _, c := range []struct {
		a, b int
		rows []api.Row
	}{
		{135, 135, []api.Row{mark(6)}},
		{134, 134, []api.Row{mark(5)}},
		{138, 138, []api.Row{mark(9)}},
		{134, 135, []api.Row{mark(5), year(120), pair(80, 95), mark(6)}},
		{135, 138, []api.Row{mark(6), slump(2), bed(300), gap(1, 3), mark(9)}},
		{134, 138, example().Rows},
	} {
		want := api.Sheet{Id: 7, Reader: 3, Core: 2, Rows: c.rows}
		if got, e := sheet.Cut(example(), c.a, c.b); !same(got, want) || e != api.OK {
			t.Error(c, got, e)
		}
	}
	s := with(year(1), mark(3), year(2), mark(4), year(3))
	if got, e := sheet.Cut(s, 132, 133); !same(got, with(mark(3), year(2), mark(4))) || e != api.OK {
		t.Error(got, e)
	}
}

// R4: results share no memory with arguments, and no argument is changed.
func TestNewMemory(t *testing.T) {
	s := example()
	spoil := func(rows []api.Row) {
		for i := range rows {
			rows[i] = year(77)
		}
		_ = append(rows, year(78), year(79))
		if !same(s, example()) {
			t.Fatal("shared memory")
		}
	}
	rows, _ := sheet.Rows(s, 134, 138)
	spoil(rows)
	cut, _ := sheet.Cut(s, 134, 138)
	spoil(cut.Rows)
	cut, _ = sheet.Cut(s, 134, 135)
	spoil(cut.Rows)
	spliced, _ := sheet.Splice(s, 134, 135, nil)
	spoil(spliced.Rows)
	put := []api.Row{year(1), year(2)}
	spliced, _ = sheet.Splice(s, 134, 138, put)
	spoil(spliced.Rows)
	if !slices.Equal(put, []api.Row{year(1), year(2)}) {
		t.Error("shared memory", put)
	}
	wide := append(make([]api.Row, 0, 50), example().Rows...)
	if _, e := sheet.Splice(api.Sheet{Id: 1, Reader: 1, Core: 2, Rows: wide}, 134, 135, repeat(bed(1), 9)); e != api.OK || !slices.Equal(wide, example().Rows) {
		t.Error("changed", wide, e)
	}
}

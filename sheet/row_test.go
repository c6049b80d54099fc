package sheet_test

import (
	"math"
	"slices"
	"testing"

	"gyttja/api"
	"gyttja/sheet"
)

// P1.1: a row is valid exactly if it is in the table of the chapter.
func TestCheckRow(t *testing.T) {
	valid := []api.Row{
		mark(0), mark(63), year(1), year(100000), pair(1, 1), pair(100000, 100000), pair(1, 100000), pair(100000, 1),
		slump(1), slump(1000), bed(1), bed(100000), gap(0, 1), gap(1, 1), gap(0, 1000), gap(1000, 1000), gap(999, 1000),
	}
	for _, r := range valid {
		if e := sheet.CheckRow(r); e != api.OK {
			t.Error(r, e)
		}
	}
	wrong := []api.Row{
		mark(-1), mark(64), {Kind: api.RowMark, N: 1, M: 1}, {Kind: api.RowMark, N: 1, M: -1},
		year(0), year(-1), year(100001), {Kind: api.RowYear, N: 1, M: 1}, {Kind: api.RowYear, N: 1, M: -1},
		pair(0, 1), pair(1, 0), pair(100001, 1), pair(1, 100001), pair(-1, 1), pair(1, -1), pair(math.MaxInt, math.MaxInt),
		slump(0), slump(-1), slump(1001), {Kind: api.RowSlump, N: 1, M: 1}, {Kind: api.RowSlump, N: 1, M: -1},
		bed(0), bed(-1), bed(100001), {Kind: api.RowBed, N: 1, M: 1}, {Kind: api.RowBed, N: 1, M: -1},
		gap(0, 0), gap(2, 1), gap(-1, 1), gap(0, 1001), gap(1001, 1001), gap(-1, 0), gap(math.MinInt, math.MinInt),
		{}, {N: 1}, {Kind: 7, N: 1}, {Kind: -1, N: 1}, {Kind: math.MaxInt, N: 1}, {Kind: math.MinInt, N: 1}, {Kind: 8, N: 1, M: 1},
	}
	for _, r := range wrong {
		if e := sheet.CheckRow(r); e != api.ErrRow {
			t.Error(r, e)
		}
	}
}

// P1.1, P1: each function of rows has the error of rows that are not right, and zero values beside it.
func TestBadRows(t *testing.T) {
	for name, c := range badRows() {
		if lo, hi, e := sheet.Years(c.rows); lo != 0 || hi != 0 || e != c.e {
			t.Error("Years of", name, lo, hi, e)
		}
		if n, e := sheet.Length(c.rows); n != 0 || e != c.e {
			t.Error("Length of", name, n, e)
		}
		if l, e := sheet.Thick(c.rows); len(l) != 0 || e != c.e {
			t.Error("Thick of", name, l, e)
		}
		if l, e := sheet.Read(c.rows, []int{1}); len(l) != 0 || e != c.e {
			t.Error("Read of", name, l, e)
		}
		if e := sheet.Check(with(c.rows...)); e != c.e {
			t.Error("Check of", name, e)
		}
	}
}

// P1.1: rows at the limits are right.
func TestRowsAtLimits(t *testing.T) {
	most := append(repeat(slump(1000), 99), gap(998, 998), pair(1, 1))
	if lo, hi, e := sheet.Years(most); lo != 999 || hi != 100000 || e != api.OK {
		t.Error(lo, hi, e)
	}
	if l, e := sheet.Read(most, []int{-1}); len(l) != 100000 || e != api.OK || !sheet.IsReading(most, l) {
		t.Error(len(l), e)
	}
	wide := repeat(pair(100000, 100000), 400)
	if n, e := sheet.Length(wide); n != 80000000 || e != api.OK {
		t.Error(n, e)
	}
	if l, e := sheet.Thick(wide); len(l) != 800 || e != api.OK {
		t.Error(len(l), e)
	}
	if e := sheet.Check(with(wide...)); e != api.OK {
		t.Error(e)
	}
}

// P1.1: Years adds up what the table tells of each row.
func TestYears(t *testing.T) {
	for _, c := range []struct {
		rows   []api.Row
		lo, hi int
	}{
		{nil, 0, 0},
		{[]api.Row{}, 0, 0},
		{[]api.Row{mark(3)}, 0, 0},
		{[]api.Row{year(9)}, 1, 1},
		{[]api.Row{pair(9, 8)}, 1, 2},
		{[]api.Row{slump(9)}, 0, 9},
		{[]api.Row{bed(9)}, 0, 0},
		{[]api.Row{gap(4, 9)}, 4, 9},
		{[]api.Row{mark(5), mark(5), mark(1)}, 0, 0},
		{example().Rows, 3, 8},
	} {
		if lo, hi, e := sheet.Years(c.rows); lo != c.lo || hi != c.hi || e != api.OK {
			t.Error(c.rows, lo, hi, e)
		}
	}
}

// P1.1: Length counts beds, Thick does not; both refuse rows that hide years.
func TestLengthAndThick(t *testing.T) {
	for _, c := range []struct {
		rows   []api.Row
		length int
		thick  []int
	}{
		{nil, 0, nil},
		{[]api.Row{}, 0, nil},
		{[]api.Row{mark(3), bed(30)}, 30, nil},
		{[]api.Row{year(120), pair(80, 95)}, 295, []int{120, 80, 95}},
		{[]api.Row{pair(2, 1), bed(7), mark(60), year(4), bed(5)}, 19, []int{2, 1, 4}},
	} {
		if n, e := sheet.Length(c.rows); n != c.length || e != api.OK {
			t.Error(c.rows, n, e)
		}
		if l, e := sheet.Thick(c.rows); !slices.Equal(l, c.thick) || e != api.OK {
			t.Error(c.rows, l, e)
		}
	}
	for _, r := range []api.Row{slump(1), gap(0, 1), gap(2, 2)} {
		rows := []api.Row{year(1), r, bed(2)}
		if n, e := sheet.Length(rows); n != 0 || e != api.ErrHidden {
			t.Error(rows, n, e)
		}
		if l, e := sheet.Thick(rows); len(l) != 0 || e != api.ErrHidden {
			t.Error(rows, l, e)
		}
	}
}

// R1: rows that are not right are named ahead of hidden years.
func TestHiddenComesLast(t *testing.T) {
	for _, c := range []struct {
		rows []api.Row
		e    api.Errno
	}{
		{[]api.Row{slump(1), year(0)}, api.ErrRow},
		{repeat(slump(1), 401), api.ErrLong},
		{repeat(slump(1000), 101), api.ErrLong},
	} {
		if _, e := sheet.Length(c.rows); e != c.e {
			t.Error(e, c.e)
		}
		if _, e := sheet.Thick(c.rows); e != c.e {
			t.Error(e, c.e)
		}
	}
}

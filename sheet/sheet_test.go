package sheet_test

import (
	"slices"
	"testing"

	"gyttja/api"
	"gyttja/sheet"
)

// P1.1: sheets that are valid, at the limits too.
func TestCheck(t *testing.T) {
	for _, s := range []api.Sheet{
		example(),
		{Id: 1, Reader: 1, Core: 0},
		{Id: 1, Reader: 1, Core: 0, Rows: []api.Row{}},
		{Id: 99999, Reader: 99, Core: 31, Rows: []api.Row{mark(0), mark(63)}},
		with(year(1)),
		with(year(1), mark(3), mark(4), bed(1)),
		with(repeat(year(1), 400)...),
		with(repeat(slump(1000), 100)...),
	} {
		if e := sheet.Check(s); e != api.OK {
			t.Error(s, e)
		}
	}
}

// P1.1, P1: each function of a sheet has the error of Check, and zero values beside it.
func TestBadSheets(t *testing.T) {
	good := with(mark(4), year(1), mark(5))
	a, b := sheet.Mark(2, 4), sheet.Mark(2, 5)
	for name, c := range badSheets() {
		if e := sheet.Check(c.s); e != c.e {
			t.Error("Check of", name, e)
		}
		if text, e := sheet.Print(c.s); text != "" || e != c.e {
			t.Error("Print of", name, text, e)
		}
		if l := sheet.Marks(c.s); len(l) != 0 {
			t.Error("Marks of", name, l)
		}
		if l := sheet.Spans(c.s); len(l) != 0 {
			t.Error("Spans of", name, l)
		}
		for _, ends := range [][2]int{{a, b}, {b, a}, {a, a}, {0, -1}} {
			if p, e := sheet.Between(c.s, ends[0], ends[1]); p != (api.Span{}) || e != c.e {
				t.Error("Between of", name, p, e)
			}
			if l, e := sheet.Rows(c.s, ends[0], ends[1]); len(l) != 0 || e != c.e {
				t.Error("Rows of", name, l, e)
			}
			if s, e := sheet.Splice(c.s, ends[0], ends[1], nil); !isZero(s) || e != c.e {
				t.Error("Splice of", name, s, e)
			}
			if s, e := sheet.Cut(c.s, ends[0], ends[1]); !isZero(s) || e != c.e {
				t.Error("Cut of", name, s, e)
			}
		}
		for _, two := range [][2]api.Sheet{{c.s, good}, {good, c.s}, {c.s, c.s}, {c.s, {}}} {
			if l, e := sheet.Meet(two[0], two[1]); len(l) != 0 || e != c.e {
				t.Error("Meet of", name, l, e)
			}
			if l, e := sheet.Apart(two[0], two[1]); len(l) != 0 || e != c.e {
				t.Error("Apart of", name, l, e)
			}
		}
	}
}

// P1.1: Mark and Place number all marks, and no others.
func TestMarkAndPlace(t *testing.T) {
	next := 1
	for core := range 32 {
		for no := range 64 {
			if n := sheet.Mark(core, no); n != next {
				t.Fatal(core, no, n)
			}
			if c, k := sheet.Place(next); c != core || k != no {
				t.Fatal(next, c, k)
			}
			next++
		}
	}
	for _, n := range extremes {
		if n < 0 || n > 31 {
			if m := sheet.Mark(n, 0); m != -1 {
				t.Error(n, m)
			}
		}
		if n < 0 || n > 63 {
			if m := sheet.Mark(0, n); m != -1 {
				t.Error(n, m)
			}
			if m := sheet.Mark(-1, n); m != -1 {
				t.Error(n, m)
			}
		}
		if n < 1 || n > 2048 {
			if c, k := sheet.Place(n); c != -1 || k != -1 {
				t.Error(n, c, k)
			}
		}
	}
	for _, two := range [][2]int{{-1, 64}, {1, -1}, {1, 64}, {32, 0}} {
		if m := sheet.Mark(two[0], two[1]); m != -1 {
			t.Error(two, m)
		}
	}
}

// P1.1: marks and the spans between them.
func TestMarksAndSpans(t *testing.T) {
	for _, c := range []struct {
		s     api.Sheet
		marks []int
		spans []api.Span
	}{
		{example(), []int{134, 135, 138}, []api.Span{{A: 134, B: 135, Lo: 2, Hi: 3}, {A: 135, B: 138, Lo: 1, Hi: 5}}},
		{with(), nil, nil},
		{with(year(1), bed(2)), nil, nil},
		{with(year(1), mark(0), year(1)), []int{129}, nil},
		{with(year(1), mark(0), mark(63), slump(1)), []int{129, 192}, []api.Span{{A: 129, B: 192}}},
		{with(gap(3, 4), mark(1), bed(4), mark(2), gap(0, 2), slump(5), mark(3), year(1)), []int{130, 131, 132}, []api.Span{{A: 130, B: 131}, {A: 131, B: 132, Lo: 0, Hi: 7}}},
	} {
		if l := sheet.Marks(c.s); !slices.Equal(l, c.marks) {
			t.Error(c.s, l)
		}
		if l := sheet.Spans(c.s); !slices.Equal(l, c.spans) {
			t.Error(c.s, l)
		}
	}
}

// P1.1: Between in both directions, and of one mark.
func TestBetween(t *testing.T) {
	for _, c := range []struct{ a, b, lo, hi int }{
		{134, 135, 2, 3}, {135, 138, 1, 5}, {134, 138, 3, 8},
		{135, 134, -3, -2}, {138, 135, -5, -1}, {138, 134, -8, -3},
		{134, 134, 0, 0}, {135, 135, 0, 0}, {138, 138, 0, 0},
	} {
		want := api.Span{A: c.a, B: c.b, Lo: c.lo, Hi: c.hi}
		if p, e := sheet.Between(example(), c.a, c.b); p != want || e != api.OK {
			t.Error(c, p, e)
		}
	}
}

// P1.1: Between agrees with Years of Rows; P1.4: it is additive, and negative the other way round.
func TestBetweenIsAdditive(t *testing.T) {
	d := dice(21)
	for range 300 {
		s := someSheet(d, d.IntN(32))
		marks := sheet.Marks(s)
		for i, a := range marks {
			for k, b := range marks[i+1:] {
				checkBetween(t, s, a, b)
				for _, c := range marks[i+k+2:] {
					x, _ := sheet.Between(s, a, b)
					y, _ := sheet.Between(s, b, c)
					z, _ := sheet.Between(s, a, c)
					if z.Lo != x.Lo+y.Lo || z.Hi != x.Hi+y.Hi {
						t.Fatal(s, x, y, z)
					}
				}
			}
		}
	}
}

func checkBetween(t *testing.T, s api.Sheet, a, b int) {
	t.Helper()
	rows, e := sheet.Rows(s, a, b)
	if e != api.OK {
		t.Fatal(s, a, b, e)
	}
	lo, hi, _ := sheet.Years(rows)
	if p, e := sheet.Between(s, a, b); p != (api.Span{A: a, B: b, Lo: lo, Hi: hi}) || e != api.OK {
		t.Fatal(s, a, b, p, e)
	}
	if p, e := sheet.Between(s, b, a); p != (api.Span{A: b, B: a, Lo: -hi, Hi: -lo}) || e != api.OK {
		t.Fatal(s, b, a, p, e)
	}
}

// notMarks are numbers that are no marks of the example: of the datum, another number of its core, another core, none at all.
var notMarks = []int{0, -1, 133, 136, 137, 139, 5, 6, 9, 70, 198, 2048, 2049, 1 << 40, -1 << 63}

// P1.1: marks that a sheet does not have.
func TestNoSuchMark(t *testing.T) {
	for _, n := range notMarks {
		for _, ends := range [][2]int{{n, 134}, {134, n}, {n, n}, {n, 138}, {138, n}} {
			a, b := ends[0], ends[1]
			if p, e := sheet.Between(example(), a, b); p != (api.Span{}) || e != api.ErrMark {
				t.Error("Between", ends, p, e)
			}
			if l, e := sheet.Rows(example(), a, b); len(l) != 0 || e != api.ErrMark {
				t.Error("Rows", ends, l, e)
			}
			if s, e := sheet.Splice(example(), a, b, []api.Row{{}}); !isZero(s) || e != api.ErrMark {
				t.Error("Splice", ends, s, e)
			}
			if s, e := sheet.Cut(example(), a, b); !isZero(s) || e != api.ErrMark {
				t.Error("Cut", ends, s, e)
			}
		}
	}
}

package sheet_test

import (
	"strings"
	"testing"

	"gyttja/api"
	"gyttja/sheet"
)

const exampleText = "sheet 7 reader 3 core 2\nmark 5\nyear 120\npair 80 95\nmark 6\nslump 2\nbed 300\ngap 1 3\nmark 9\n"

// head is the first line of a valid sheet.
const head = "sheet 1 reader 2 core 3\n"

// P1.2: the text that Print writes.
func TestPrint(t *testing.T) {
	for _, c := range []struct {
		s    api.Sheet
		want string
	}{
		{example(), exampleText},
		{api.Sheet{Id: 99999, Reader: 99, Core: 31}, "sheet 99999 reader 99 core 31\n"},
		{with(gap(0, 1000), mark(0)), "sheet 1 reader 1 core 2\ngap 0 1000\nmark 0\n"},
	} {
		if text, e := sheet.Print(c.s); text != c.want || e != api.OK {
			t.Error(text, e)
		}
	}
}

// P1.2: the longest sheets can be printed and read.
func TestLongestSheet(t *testing.T) {
	s := api.Sheet{Id: 99999, Reader: 99, Core: 31, Rows: repeat(pair(100000, 100000), 400)}
	text, e := sheet.Print(s)
	if e != api.OK {
		t.Fatal(e)
	}
	if back, at, e := sheet.Parse(text); !same(back, s) || at != 0 || e != api.OK {
		t.Error(at, e)
	}
}

// P1.2: Parse of Print returns the sheet.
func TestParseOfPrint(t *testing.T) {
	d := dice(51)
	for range 500 {
		s := someSheet(d, d.IntN(32))
		text, e := sheet.Print(s)
		if e != api.OK {
			t.Fatal(s, e)
		}
		back, at, e := sheet.Parse(text)
		if !same(back, s) || at != 0 || e != api.OK {
			t.Fatal(s, text, back, at, e)
		}
	}
}

// P1.2: texts of any form that say the same.
func TestParseForms(t *testing.T) {
	want := api.Sheet{Id: 1, Reader: 2, Core: 3, Rows: []api.Row{mark(0), gap(0, 100), year(100000)}}
	for _, text := range []string{
		"sheet 1 reader 2 core 3\nmark 0\ngap 0 100\nyear 100000\n",
		"sheet 1 reader 2 core 3\nmark 0\ngap 0 100\nyear 100000",
		"\n\n#\n# sheet\n   \n  sheet   1 reader  2 core 3  \n#x\n\nmark     0 \n   gap 0  100\n \nyear 100000 \n\n \n",
		"#\t\x00\xff\r\nsheet 1 reader 2 core 3\n#mark 1\nmark 0\ngap 0 100\nyear 100000\n#",
	} {
		s, at, e := sheet.Parse(text)
		if !same(s, want) || at != 0 || e != api.OK {
			t.Errorf("%q: %v %d %d", text, s, at, e)
		}
		again, e := sheet.Print(s)
		if back, at, f := sheet.Parse(again); e != api.OK || !same(back, s) || at != 0 || f != api.OK {
			t.Error(again, back, at, e, f)
		}
	}
	if s, at, e := sheet.Parse("sheet 1 reader 2 core 3"); !same(s, api.Sheet{Id: 1, Reader: 2, Core: 3}) || at != 0 || e != api.OK {
		t.Error(s, at, e)
	}
}

// P1.1: texts that are no sheets, with the number of the first line that is wrong.
func TestParseWrongTexts(t *testing.T) {
	for _, c := range []struct {
		text string
		at   int
	}{
		{"", 1}, {"\n", 2}, {" ", 2}, {" \n", 2}, {"#", 2}, {"\n#", 3}, {"\n\n", 3}, {"#\n \n#\n", 4},
		{"mark 1\n", 1}, {"\nmark 1\nsheet 1 reader 2 core 3\n", 2}, {head + head, 2}, {head + "\n" + head, 3},
		{"Sheet 1 reader 2 core 3", 1}, {"sheet 1 Reader 2 core 3", 1}, {"sheet 1 reader 2 Core 3", 1},
		{"sheet 1 reader 2 core", 1}, {"sheet 1 reader 2 core 3 4", 1}, {"sheet 1 core 3 reader 2", 1}, {"sheet", 1},
		{"sheet1 reader 2 core 3", 1}, {"sheet x reader 2 core 3", 1}, {"sheet 1 reader x core 3", 1}, {"sheet 1 reader 2 core x", 1},
		{"sheet 1 reader 2 core 03", 1}, {"sheet 01 reader 2 core 3", 1}, {"sheet 1 reader -2 core 3", 1}, {"sheet +1 reader 2 core 3", 1},
		{"sheet 1000000 reader 2 core 3", 1}, {"sheet\t1 reader 2 core 3", 1}, {"sheet 1 reader 2 core 3\r\n", 1}, {" #\n" + head, 1},
		{head + "years 4", 2}, {head + "\nyears 4", 3}, {head + "year", 2}, {head + "year 4 5", 2}, {head + "year4", 2}, {head + "4", 2}, {head + "0 4", 2},
		{head + "mark", 2}, {head + "mark 1 2", 2}, {head + "slump", 2}, {head + "slump 1 2", 2}, {head + "bed", 2}, {head + "bed 1 2", 2},
		{head + "pair 4", 2}, {head + "pair 4 5 6", 2}, {head + "gap 4", 2}, {head + "gap 4 5 6", 2}, {head + "gap", 2}, {head + "pair", 2},
		{head + "year 00", 2}, {head + "year 04", 2}, {head + "year -4", 2}, {head + "year -0", 2}, {head + "year +4", 2}, {head + "year 4.0", 2},
		{head + "year 1e3", 2}, {head + "year 0x4", 2}, {head + "year 1_000", 2}, {head + "year ٣", 2}, {head + "year 1000000", 2},
		{head + "year 99999999999999999999999999", 2}, {head + "year 0000000", 2}, {head + "pair 1 02", 2}, {head + "gap 01 2", 2},
		{head + "gap 1 2x", 2}, {head + "year /", 2}, {head + "year :", 2}, {head + "year 1:", 2}, {head + "year 4\r\n", 2}, {head + "\r\n", 2}, {head + "\t", 2},
		{head + "year\t4", 2}, {head + "year\u00a04", 2}, {head + "year\v4", 2}, {head + " #", 2}, {head + "year 4 #", 2},
		{head + "year 4\nyear 5\n#\n\nyear x\nyear y\n", 6}, {head + "year 0\nyear x\n", 3}, {head + "Year 4", 2}, {head + "\x00", 2},
	} {
		if s, at, e := sheet.Parse(c.text); !isZero(s) || at != c.at || e != api.ErrText {
			t.Errorf("%q: %v %d %d", c.text, s, at, e)
		}
	}
}

// P1.1: texts of sheets that are not valid have the error of Check.
func TestParseWrongSheets(t *testing.T) {
	for _, c := range []struct {
		text string
		e    api.Errno
	}{
		{"sheet 0 reader 2 core 3", api.ErrSheet}, {"sheet 100000 reader 2 core 3", api.ErrSheet}, {"sheet 999999 reader 2 core 3", api.ErrSheet},
		{"sheet 1 reader 0 core 3", api.ErrSheet}, {"sheet 1 reader 100 core 3", api.ErrSheet}, {"sheet 1 reader 2 core 32", api.ErrSheet},
		{"sheet 1 reader 2 core 32\nyear 0", api.ErrSheet},
		{head + "year 0", api.ErrRow}, {head + "year 100001", api.ErrRow}, {head + "gap 4 3", api.ErrRow}, {head + "gap 0 0", api.ErrRow},
		{head + "mark 64", api.ErrRow}, {head + "slump 1001", api.ErrRow}, {head + "bed 0", api.ErrRow}, {head + "pair 0 1", api.ErrRow},
		{head + "mark 4\nmark 4\nyear 0", api.ErrRow},
		{head + "mark 4\nmark 4", api.ErrOrder}, {head + "mark 4\nmark 3", api.ErrOrder},
		{head + strings.Repeat("bed 1\n", 401), api.ErrLong}, {head + strings.Repeat("slump 1000\n", 101), api.ErrLong},
	} {
		if s, at, e := sheet.Parse(c.text); !isZero(s) || at != 0 || e != c.e {
			t.Errorf("%q: %v %d %d", c.text, s, at, e)
		}
	}
}

// P1.1: the limit of a text's bytes comes ahead of all else.
func TestParseLongTexts(t *testing.T) {
	fill := func(text string, length int) string { return text + strings.Repeat("#", length-len(text)) }
	if s, at, e := sheet.Parse(fill(head+"year 4\n", 8000)); !same(s, api.Sheet{Id: 1, Reader: 2, Core: 3, Rows: []api.Row{year(4)}}) || at != 0 || e != api.OK {
		t.Error(s, at, e)
	}
	for _, text := range []string{head + "year 4\n", "", "years 4\n", head + "year 0\n"} {
		if s, at, e := sheet.Parse(fill(text, 8001)); !isZero(s) || at != 0 || e != api.ErrLong {
			t.Error(text, s, at, e)
		}
	}
	if _, at, e := sheet.Parse(strings.Repeat("\n", 8000)); at != 8001 || e != api.ErrText {
		t.Error(at, e)
	}
}

// P1, P1.2: any text is refused, or is one whose sheet is printed and read as the same.
func FuzzParse(f *testing.F) {
	for _, text := range []string{"", exampleText, head, head + "year 0", "\n#\n" + exampleText, head + "mark 1\nmark 1", "\xff\n", head + "pair 1"} {
		f.Add(text)
	}
	f.Fuzz(func(t *testing.T, text string) {
		s, at, e := sheet.Parse(text)
		if e != api.OK {
			if !isZero(s) || (at != 0) != (e == api.ErrText) {
				t.Fatal(s, at, e)
			}
			return
		}
		if at != 0 || sheet.Check(s) != api.OK {
			t.Fatal(s, at)
		}
		again, e := sheet.Print(s)
		if back, _, f := sheet.Parse(again); e != api.OK || f != api.OK || !same(back, s) {
			t.Fatal(again, back, e, f)
		}
	})
}

package sheet_test

import (
	"math"
	"slices"
	"testing"

	"gyttja/api"
	"gyttja/sheet"
)

// readings lists all readings of rows, straight from the table of the chapter, each once.
func readings(rows []api.Row) [][]int {
	all := [][]int{nil}
	for _, r := range rows {
		var ways [][]int
		switch r.Kind {
		case api.RowYear:
			ways = [][]int{{r.N}}
		case api.RowPair:
			ways = [][]int{{r.N + r.M}, {r.N, r.M}}
		case api.RowSlump:
			for n := 0; n <= r.N; n++ {
				ways = append(ways, make([]int, n))
			}
		case api.RowGap:
			for n := r.N; n <= r.M; n++ {
				ways = append(ways, make([]int, n))
			}
		default:
			continue
		}
		var longer [][]int
		for _, begun := range all {
			for _, way := range ways {
				longer = append(longer, slices.Concat(begun, way))
			}
		}
		slices.SortFunc(longer, slices.Compare)
		all = slices.CompactFunc(longer, slices.Equal)
	}
	return all
}

func someRows(d interface{ IntN(int) int }, row func() api.Row) []api.Row {
	var rows []api.Row
	for range d.IntN(7) {
		rows = append(rows, row())
	}
	return rows
}

// P1.1: Read takes picks for pairs, slumps and gaps alone, also where there is one candidate.
func TestRead(t *testing.T) {
	hidden := []api.Row{slump(2), bed(300), gap(1, 3)}
	mixed := []api.Row{mark(1), pair(1, 2), year(9), gap(2, 2), bed(8), pair(3, 4), slump(1)}
	for _, c := range []struct {
		rows        []api.Row
		picks, want []int
	}{
		{nil, []int{1}, nil},
		{[]api.Row{}, nil, nil},
		{[]api.Row{year(120), pair(80, 95)}, []int{0}, []int{120, 175}},
		{[]api.Row{year(120), pair(80, 95)}, []int{1}, []int{120, 80, 95}},
		{[]api.Row{year(120), pair(80, 95)}, nil, []int{120, 175}},
		{[]api.Row{year(120), pair(80, 95)}, []int{}, []int{120, 175}},
		{hidden, []int{1, 2}, []int{0, 0, 0, 0}},
		{hidden, []int{2, 0}, []int{0, 0, 0}},
		{hidden, nil, []int{0}},
		{hidden, []int{4}, []int{0, 0, 0}},
		{hidden, []int{-1}, []int{0, 0, 0, 0, 0}},
		{hidden, []int{math.MinInt}, make([]int, mod(math.MinInt, 3)+1+mod(math.MinInt, 3))},
		{hidden, []int{math.MaxInt}, make([]int, mod(math.MaxInt, 3)+1+mod(math.MaxInt, 3))},
		{mixed, []int{1, 5, 0, 1}, []int{1, 2, 9, 0, 0, 7, 0}},
		{mixed, []int{0, 5, 1, 0}, []int{3, 9, 0, 0, 3, 4}},
		{mixed, []int{0, 1}, []int{3, 9, 0, 0, 7, 0}},
		{mixed, []int{1, 0, 0}, []int{1, 2, 9, 0, 0, 7, 0}},
		{mixed, []int{1, 0, 0, 0, 1, 1}, []int{1, 2, 9, 0, 0, 7}},
		{mixed, []int{-1, 7, -3, -2}, []int{1, 2, 9, 0, 0, 3, 4}},
	} {
		if l, e := sheet.Read(c.rows, c.picks); !slices.Equal(l, c.want) || e != api.OK {
			t.Error(c.rows, c.picks, l, e)
		}
	}
}

// mod is a modulo n of R5.
func mod(a, n int) int { return (a%n + n) % n }

// P1.3: Read, with all picks, returns all readings, and IsReading accepts each of them.
func TestReadReturnsReadings(t *testing.T) {
	d := dice(11)
	for range 300 {
		rows := someRows(d, func() api.Row { return someRow(d) })
		got := map[string]bool{}
		all := readings(rows)
		for _, picks := range everyPicks(rows) {
			l, e := sheet.Read(rows, picks)
			if e != api.OK || !sheet.IsReading(rows, l) {
				t.Fatal(rows, picks, l, e)
			}
			if !slices.ContainsFunc(all, func(m []int) bool { return slices.Equal(l, m) }) {
				t.Fatal("no reading:", rows, picks, l)
			}
			got[key(l)] = true
		}
		if len(got) != len(all) {
			t.Fatal(rows, len(got), len(all))
		}
	}
}

// everyPicks lists all ways to choose a reading.
func everyPicks(rows []api.Row) [][]int {
	all := [][]int{nil}
	for _, r := range rows {
		n := 0
		switch r.Kind {
		case api.RowPair:
			n = 2
		case api.RowSlump:
			n = r.N + 1
		case api.RowGap:
			n = r.M - r.N + 1
		default:
			continue
		}
		var longer [][]int
		for _, picks := range all {
			for p := range n {
				longer = append(longer, append(slices.Clone(picks), p))
			}
		}
		all = longer
	}
	return all
}

func key(l []int) string {
	var b []byte
	for _, n := range l {
		b = append(b, byte(n))
	}
	return string(b)
}

// P1.3: each reading has a number of years that Years tells, and each such number has a reading.
func TestReadingsHaveTheYears(t *testing.T) {
	d := dice(12)
	for range 300 {
		rows := someRows(d, func() api.Row { return someRow(d) })
		lo, hi, e := sheet.Years(rows)
		if e != api.OK {
			t.Fatal(rows, e)
		}
		lengths := map[int]bool{}
		for _, picks := range everyPicks(rows) {
			l, _ := sheet.Read(rows, picks)
			if len(l) < lo || len(l) > hi {
				t.Fatal(rows, lo, hi, l)
			}
			lengths[len(l)] = true
		}
		if len(lengths) != hi-lo+1 {
			t.Fatal(rows, lo, hi, lengths)
		}
	}
}

// P1.1: IsReading tells readings from all other lists.
func TestIsReading(t *testing.T) {
	d := dice(13)
	for range 60 {
		rows := someRows(d, func() api.Row { return someRow(d) })
		all := readings(rows)
		_, hi, _ := sheet.Years(rows)
		for range 200 {
			l := changed(d, all[d.IntN(len(all))], hi)
			want := slices.ContainsFunc(all, func(m []int) bool { return slices.Equal(l, m) })
			if sheet.IsReading(rows, l) != want {
				t.Fatal(rows, l, want)
			}
		}
	}
}

// changed returns a list that differs little from a reading.
func changed(d interface{ IntN(int) int }, l []int, most int) []int {
	l = slices.Clone(l)
	for range d.IntN(3) {
		at := d.IntN(len(l) + 1)
		switch {
		case d.IntN(2) == 0 && len(l) <= most:
			l = slices.Insert(l, at, d.IntN(4))
		case at < len(l) && d.IntN(2) == 0:
			l = slices.Delete(l, at, at+1)
		case at < len(l):
			l[at] = d.IntN(5)
		}
	}
	return l
}

// P1.1: IsReading of what the chapter names, of hidden years that lie beside each other, and of rows that are not right.
func TestIsReadingCases(t *testing.T) {
	first := []api.Row{year(120), pair(80, 95)}
	hidden := []api.Row{slump(2), bed(300), gap(1, 3)}
	between := []api.Row{slump(1), mark(4), gap(1, 2), year(5), slump(2)}
	for _, c := range []struct {
		rows  []api.Row
		years []int
		want  bool
	}{
		{nil, nil, true},
		{[]api.Row{}, []int{}, true},
		{nil, []int{0}, false},
		{nil, []int{1}, false},
		{[]api.Row{mark(1), bed(2)}, nil, true},
		{[]api.Row{mark(1), bed(2)}, []int{2}, false},
		{first, []int{120, 95, 80}, false},
		{first, []int{120, 80, 95}, true},
		{first, []int{120, 175}, true},
		{first, []int{120, 80}, false},
		{first, []int{120}, false},
		{first, []int{120, 175, 0}, false},
		{first, []int{0, 120, 175}, false},
		{first, []int{120, 80, 95, 1}, false},
		{first, nil, false},
		{hidden, nil, false},
		{hidden, []int{0}, true},
		{hidden, []int{0, 0, 0, 0, 0}, true},
		{hidden, []int{0, 0, 0, 0, 0, 0}, false},
		{hidden, []int{1}, false},
		{between, []int{5}, false},
		{between, []int{0, 5}, true},
		{between, []int{0, 0, 0, 5, 0, 0}, true},
		{between, []int{0, 0, 0, 0, 5}, false},
		{between, []int{0, 5, 0, 0, 0}, false},
		{between, []int{0, 5, 1}, false},
		{between, []int{0, 5, 0, 1}, false},
		{[]api.Row{slump(1), pair(1, 1), slump(1)}, []int{0, 2, 0}, true},
		{[]api.Row{slump(1), pair(1, 1), slump(1)}, []int{1, 0, 1}, false},
		{[]api.Row{pair(1, 1), pair(1, 1)}, []int{1, 1, 2}, true},
		{[]api.Row{pair(1, 2), pair(3, 1)}, []int{3, 3, 1}, true},
		{[]api.Row{{}}, nil, false},
		{repeat(bed(1), 401), nil, false},
		{repeat(bed(1), 400), nil, true},
		{repeat(slump(1000), 101), nil, false},
		{[]api.Row{year(0)}, []int{0}, false},
		{[]api.Row{year(-5)}, []int{-5}, false},
	} {
		if got := sheet.IsReading(c.rows, c.years); got != c.want {
			t.Error(c.rows, c.years, got)
		}
	}
}

package sheet_test

import (
	"math"
	"math/rand/v2"
	"reflect"
	"slices"

	"gyttja/api"
)

// extremes are numbers at and beyond all limits.
var extremes = []int{math.MinInt, -1, 0, 1, 2, 31, 32, 63, 64, 99, 100, 1000, 1001, 2048, 2049, 99999, 100000, 100001, math.MaxInt}

func mark(n int) api.Row    { return api.Row{Kind: api.RowMark, N: n} }
func year(n int) api.Row    { return api.Row{Kind: api.RowYear, N: n} }
func pair(n, m int) api.Row { return api.Row{Kind: api.RowPair, N: n, M: m} }
func slump(n int) api.Row   { return api.Row{Kind: api.RowSlump, N: n} }
func bed(n int) api.Row     { return api.Row{Kind: api.RowBed, N: n} }
func gap(n, m int) api.Row  { return api.Row{Kind: api.RowGap, N: n, M: m} }

// example is the sheet of the chapter's examples.
func example() api.Sheet {
	return api.Sheet{Id: 7, Reader: 3, Core: 2, Rows: []api.Row{mark(5), year(120), pair(80, 95), mark(6), slump(2), bed(300), gap(1, 3), mark(9)}}
}

// with returns a valid sheet of core 2 if the rows allow it.
func with(rows ...api.Row) api.Sheet {
	return api.Sheet{Id: 1, Reader: 1, Core: 2, Rows: rows}
}

func repeat(r api.Row, n int) []api.Row { return slices.Repeat([]api.Row{r}, n) }

// badRows are lists of rows that are not right, each with its error.
func badRows() map[string]struct {
	rows []api.Row
	e    api.Errno
} {
	return map[string]struct {
		rows []api.Row
		e    api.Errno
	}{
		"a kind that there is not":            {[]api.Row{year(1), {Kind: 7, N: 1}}, api.ErrRow},
		"no kind":                             {[]api.Row{{}}, api.ErrRow},
		"a row that is not valid":             {[]api.Row{year(1), gap(2, 1)}, api.ErrRow},
		"too many rows":                       {repeat(bed(1), api.MaxRows+1), api.ErrLong},
		"too many rows, not valid":            {repeat(year(0), api.MaxRows+1), api.ErrLong},
		"too many years":                      {append(repeat(slump(1000), 100), year(1)), api.ErrLong},
		"too many years, then one not valid":  {append(repeat(slump(1000), 101), year(0)), api.ErrRow},
		"too many years of gaps":              {append(repeat(gap(0, 1000), 100), slump(1)), api.ErrLong},
		"too many years, of a pair as of two": {append(repeat(slump(1000), 99), append([]api.Row{slump(999)}, pair(1, 1))...), api.ErrLong},
	}
}

// badSheets are sheets that are not valid, each with its error.
func badSheets() map[string]struct {
	s api.Sheet
	e api.Errno
} {
	list := map[string]struct {
		s api.Sheet
		e api.Errno
	}{
		"id 0":                    {api.Sheet{Id: 0, Reader: 1}, api.ErrSheet},
		"id too great":            {api.Sheet{Id: 100000, Reader: 1}, api.ErrSheet},
		"reader 0":                {api.Sheet{Id: 1, Reader: 0}, api.ErrSheet},
		"reader too great":        {api.Sheet{Id: 1, Reader: 100}, api.ErrSheet},
		"core below 0":            {api.Sheet{Id: 1, Reader: 1, Core: -1}, api.ErrSheet},
		"core too great":          {api.Sheet{Id: 1, Reader: 1, Core: 32}, api.ErrSheet},
		"core ahead of rows":      {api.Sheet{Id: 1, Reader: 1, Core: 32, Rows: []api.Row{{}}}, api.ErrSheet},
		"marks alike":             {with(mark(4), year(1), mark(4)), api.ErrOrder},
		"marks that fall":         {with(mark(4), mark(3)), api.ErrOrder},
		"marks that fall far on":  {with(mark(4), mark(9), year(5), mark(8)), api.ErrOrder},
		"rows ahead of order":     {with(mark(4), mark(4), year(0)), api.ErrRow},
		"too long ahead of order": {with(repeat(mark(4), 401)...), api.ErrLong},
	}
	for name, c := range badRows() {
		list[name] = struct {
			s api.Sheet
			e api.Errno
		}{with(c.rows...), c.e}
	}
	return list
}

func dice(seed uint64) *rand.Rand { return rand.New(rand.NewPCG(seed, 1)) }

// someRow is a valid row that is no mark, with small numbers.
func someRow(d *rand.Rand) api.Row {
	switch d.IntN(5) {
	case 0:
		return year(1 + d.IntN(3))
	case 1:
		return pair(1+d.IntN(2), 1+d.IntN(2))
	case 2:
		return slump(1 + d.IntN(2))
	case 3:
		return bed(1 + d.IntN(3))
	}
	most := 1 + d.IntN(2)
	return gap(d.IntN(most+1), most)
}

// someSheet is a valid sheet of a core.
func someSheet(d *rand.Rand, core int) api.Sheet {
	s := api.Sheet{Id: 1 + d.IntN(99999), Reader: 1 + d.IntN(99), Core: core}
	next := d.IntN(3)
	for range d.IntN(20) {
		if d.IntN(3) > 0 {
			s.Rows = append(s.Rows, someRow(d))
			continue
		}
		s.Rows = append(s.Rows, mark(next))
		next += 1 + d.IntN(3)
	}
	return s
}

func same(s, t api.Sheet) bool {
	return s.Id == t.Id && s.Reader == t.Reader && s.Core == t.Core && slices.Equal(s.Rows, t.Rows)
}

func isZero(s api.Sheet) bool { return reflect.ValueOf(s).IsZero() }

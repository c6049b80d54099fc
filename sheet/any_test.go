package sheet_test

import (
	"testing"

	"gyttja/api"
	"gyttja/sheet"
)

// P1: no function panics, whatever its arguments are.
func TestAnyArguments(t *testing.T) {
	kinds := []int{-1, 0, 1, 2, 3, 4, 5, 6, 7, extremes[0], extremes[len(extremes)-1]}
	sheets := []api.Sheet{{}, example()}
	for _, kind := range kinds {
		for _, n := range extremes {
			for _, m := range extremes {
				r := api.Row{Kind: kind, N: n, M: m}
				ok := sheet.CheckRow(r) == api.OK
				_, _, e := sheet.Years([]api.Row{r})
				if ok != (e == api.OK) || ok != (sheet.Check(with(r)) == api.OK) {
					t.Error(r, ok, e)
				}
				l, e := sheet.Read([]api.Row{r}, []int{n, m})
				if ok != (e == api.OK) || ok != sheet.IsReading([]api.Row{r}, l) {
					t.Error(r, ok, e, l)
				}
				sheet.Length([]api.Row{r})
				sheet.Thick([]api.Row{r})
				sheet.IsReading([]api.Row{r}, []int{n, m})
				sheet.Mark(n, m)
			}
		}
	}
	for _, a := range extremes {
		sheet.Place(a)
		s := example()
		s.Core = a
		sheets = append(sheets, s, api.Sheet{Id: a, Reader: a, Core: a})
	}
	for _, s := range sheets {
		for _, a := range extremes {
			for _, b := range extremes {
				anySheet(s, a, b)
			}
		}
	}
}

func anySheet(s api.Sheet, a, b int) {
	sheet.Check(s)
	sheet.Print(s)
	sheet.Marks(s)
	sheet.Spans(s)
	sheet.Between(s, a, b)
	sheet.Rows(s, a, b)
	sheet.Splice(s, a, b, s.Rows)
	sheet.Cut(s, a, b)
	sheet.Meet(s, example())
	sheet.Apart(example(), s)
}

package sheet

import (
	"slices"

	"gyttja/api"
)

// nature is what a row is, apart from its kind.
type nature struct {
	valid  bool
	lo, hi int   // years
	layers []int // thicknesses of its layers
	bed    int   // thickness that belongs to no year
	hides  bool  // its years have no layers
	choice bool  // a reading chooses the number of its years
}

// kinds has, for each kind of rows, the function that tells what a row of it is.
func kinds() map[int]func(api.Row) nature {
	return map[int]func(api.Row) nature{
		api.RowMark: func(r api.Row) nature {
			return nature{valid: within(r.N, 0, api.MarksOf-1) && r.M == 0}
		},
		api.RowYear: func(r api.Row) nature {
			return nature{valid: isThick(r.N) && r.M == 0, lo: 1, hi: 1, layers: []int{r.N}}
		},
		api.RowPair: func(r api.Row) nature {
			return nature{valid: isThick(r.N) && isThick(r.M), lo: 1, hi: 2, layers: []int{r.N, r.M}, choice: true}
		},
		api.RowSlump: func(r api.Row) nature {
			return nature{valid: within(r.N, 1, api.MaxHidden) && r.M == 0, hi: r.N, hides: true, choice: true}
		},
		api.RowBed: func(r api.Row) nature {
			return nature{valid: isThick(r.N) && r.M == 0, bed: r.N}
		},
		api.RowGap: func(r api.Row) nature {
			valid := within(r.N, 0, r.M) && within(r.M, 1, api.MaxHidden)
			return nature{valid: valid, lo: r.N, hi: r.M, hides: true, choice: true}
		},
	}
}

func within(n, lo, hi int) bool { return lo <= n && n <= hi }

func isThick(n int) bool { return within(n, 1, api.MaxThick) }

// natureOf is not valid if the row has a kind that there is not.
func natureOf(known map[int]func(api.Row) nature, r api.Row) nature {
	tell, ok := known[r.Kind]
	if !ok {
		return nature{}
	}
	return tell(r)
}

// natures returns what each row is, or the error of rows that are not right.
func natures(rows []api.Row) ([]nature, api.Errno) {
	if len(rows) > api.MaxRows {
		return nil, api.ErrLong
	}
	known := kinds()
	list := make([]nature, 0, len(rows))
	years := 0
	for _, r := range rows {
		n := natureOf(known, r)
		if !n.valid {
			return nil, api.ErrRow
		}
		years += n.hi
		list = append(list, n)
	}
	if years > api.MaxYears {
		return nil, api.ErrLong
	}
	return list, api.OK
}

// layered returns what each row is, as natures does, but allows no rows that hide years.
func layered(rows []api.Row) ([]nature, api.Errno) {
	list, e := natures(rows)
	if e != api.OK {
		return nil, e
	}
	if slices.ContainsFunc(list, func(n nature) bool { return n.hides }) {
		return nil, api.ErrHidden
	}
	return list, api.OK
}

// CheckRow reports whether a row is valid.
func CheckRow(r api.Row) api.Errno {
	if !natureOf(kinds(), r).valid {
		return api.ErrRow
	}
	return api.OK
}

// Years returns the least and the greatest number of years in rows.
func Years(rows []api.Row) (lo, hi int, e api.Errno) {
	list, e := natures(rows)
	if e != api.OK {
		return 0, 0, e
	}
	for _, n := range list {
		lo += n.lo
		hi += n.hi
	}
	return lo, hi, api.OK
}

// Length returns the thickness of rows.
func Length(rows []api.Row) (int, api.Errno) {
	list, e := layered(rows)
	if e != api.OK {
		return 0, e
	}
	length := 0
	for _, n := range list {
		length += n.bed + sum(n.layers)
	}
	return length, api.OK
}

// Thick returns the thicknesses of rows that hide no years.
func Thick(rows []api.Row) ([]int, api.Errno) {
	list, e := layered(rows)
	if e != api.OK {
		return nil, e
	}
	var thicknesses []int
	for _, n := range list {
		thicknesses = append(thicknesses, n.layers...)
	}
	return thicknesses, api.OK
}

func sum(l []int) int {
	total := 0
	for _, n := range l {
		total += n
	}
	return total
}

package cases_test

import (
	"math"
	"slices"
	"testing"

	"gyttja/api"
	"gyttja/cases"
	"gyttja/span"
)

// P5.4, R10: the first number chooses a leaf, those behind it years; then the first one is taken again.
func TestChronology(t *testing.T) {
	for name, c := range map[string]struct {
		w       api.World
		picks   []int
		choices []int
		want    []api.Dated
	}{
		"the example":                {example(), []int{5, 1}, []int{0, 2}, dated(0, 0, 5, 12, 6, 15)},
		"no numbers":                 {example(), nil, []int{0, 0}, dated(0, 0, 5, 10, 6, 13)},
		"an empty list":              {example(), []int{}, []int{0, 0}, dated(0, 0, 5, 10, 6, 13)},
		"one number":                 {example(), []int{2}, []int{1, 0}, dated(0, 0, 5, 12, 6, 20)},
		"two numbers":                {example(), []int{2, 1}, []int{1, 0}, dated(0, 0, 5, 11, 6, 19)},
		"three numbers":              {example(), []int{2, 1, 1}, []int{1, 0}, dated(0, 0, 5, 11, 6, 20)},
		"more numbers":               {example(), []int{2, 1, 1, 77}, []int{1, 0}, dated(0, 0, 5, 11, 6, 20)},
		"the last leaf":              {example(), []int{3, 0}, []int{1, 2}, dated(0, 0, 5, 10, 6, 19)},
		"behind the last leaf":       {example(), []int{4, 0}, []int{0, 0}, dated(0, 0, 5, 10, 6, 13)},
		"a number below 0":           {example(), []int{-1, 0}, []int{1, 2}, dated(0, 0, 5, 10, 6, 19)},
		"the greatest number":        {example(), []int{math.MaxInt, 0}, []int{1, 2}, dated(0, 0, 5, 10, 6, 19)},
		"the least number":           {example(), []int{math.MinInt, 0}, []int{0, 0}, dated(0, 0, 5, 10, 6, 13)},
		"no question":                {world(chainOf(3, 1)), []int{5, 1}, nil, dated(1, 0, 2, 1, 3, 6)},
		"nothing":                    {api.World{}, []int{5, 1}, nil, nil},
		"no marks":                   {world(nil, open(1, 3), open(1, 2)), []int{5, 1}, []int{2, 1}, nil},
		"marks that do not occur":    {loose(), []int{1, 1}, []int{0, 1}, dated(0, 0, 3, 0, 4, 7, 5, 0, 6, 2, 8, 0, 9, 0)},
		"marks of parts":             {loose(), []int{0, 1}, []int{0, 0}, dated(0, 0, 3, 0, 4, 7, 5, 0, 6, 1, 8, 0, 9, 0)},
		"marks tied to later ones":   {loose(), []int{4, 1}, []int{1, 1}, dated(0, 0, 3, 0, 4, 0, 5, -3, 6, -2, 8, 0, 9, 0)},
		"marks tied to the datum":    {loose(), []int{5, 0}, []int{1, 2}, dated(0, 0, 3, 7, 4, 0, 5, 4, 6, 5, 8, 0, 9, 0)},
		"all leaves but one are out": {one(run(3, 3), run(7, 9)), []int{1}, []int{1}, dated(1, 0, 2, 8)},
	} {
		choices, d, e := cases.Chronology(c.w, c.picks)
		if !slices.Equal(choices, c.choices) || !slices.Equal(d, c.want) || e != api.OK {
			t.Error(name, choices, d, e)
		}
		if !isChronology(c.w, choices, d) {
			t.Error(name, d)
		}
	}
	if choices, d, e := cases.Chronology(broken(), []int{1}); len(choices) > 0 || len(d) > 0 || e != api.ErrChronology {
		t.Error(choices, d, e)
	}
}

// P5.4: chronologies of some worlds: the leaf by the first number, the years as span has them by the others, and 0.
func TestChronologyOfSomeWorlds(t *testing.T) {
	d := dice(41)
	tried := 0
	for range 400 {
		w := someWorld(d)
		leaves := leavesOf(w)
		var picks []int
		for range d.IntN(6) {
			picks = append(picks, d.IntN(60)-20)
		}
		choices, got, e := cases.Chronology(w, picks)
		if len(leaves) == 0 {
			if len(choices) > 0 || len(got) > 0 || e != api.ErrChronology {
				t.Fatal(w, choices, got, e)
			}
			continue
		}
		leaf := 0
		var later []int
		for i, p := range picks {
			if i == 0 {
				leaf = ((p % len(leaves)) + len(leaves)) % len(leaves)
			} else {
				later = append(later, p)
			}
		}
		if len(picks) > 0 {
			later = append(later, picks[0])
		}
		l, _ := span.Chronology(behind(w, leaves[leaf]), later)
		years := yearsOf(l)
		var want []api.Dated
		for _, mark := range marksOf(w) {
			want = append(want, api.Dated{Mark: mark, Year: years[mark]})
		}
		if !slices.Equal(choices, leaves[leaf]) || !slices.Equal(got, want) || e != api.OK || !isChronology(w, choices, got) {
			t.Fatal(w, picks, choices, got, want, e)
		}
		tried++
	}
	if tried < 100 {
		t.Error("too little was tried", tried)
	}
}

// P5.4: the first choices with which years are a chronology, or what is wrong with them.
func TestCheckChronology(t *testing.T) {
	spread := world(claims(claim(1, 2, -100000, 100000, 1)), question(1, nil, claims(claim(3, 4, 0, 0, 1))))
	for name, c := range map[string]struct {
		w       api.World
		d       []api.Dated
		choices []int
		e       api.Errno
	}{
		"the example":               {example(), dated(0, 0, 5, 12, 6, 15), []int{0, 0}, api.OK},
		"the second choice":         {example(), dated(0, 0, 5, 12, 6, 20), []int{1, 0}, api.OK},
		"no choice of the first":    {example(), dated(0, 0, 5, 12, 6, 16), nil, api.ErrYear},
		"a claim is broken":         {example(), dated(0, 0, 5, 13, 6, 16), nil, api.ErrYear},
		"just below":                {example(), dated(0, 0, 5, 9, 6, 12), nil, api.ErrYear},
		"a datum that is moved":     {example(), dated(0, 1, 5, 13, 6, 16), nil, api.ErrYear},
		"no leaf":                   {broken(), dated(0, 0, 5, 12, 6, 15), nil, api.ErrYear},
		"a mark less":               {example(), dated(0, 0, 5, 12), nil, api.ErrMark},
		"a mark more":               {example(), dated(0, 0, 5, 12, 6, 15, 7, 0), nil, api.ErrMark},
		"another mark":              {example(), dated(0, 0, 5, 12, 7, 15), nil, api.ErrMark},
		"a mark twice":              {example(), dated(0, 0, 5, 12, 5, 12, 6, 15), nil, api.ErrMark},
		"another order":             {example(), dated(0, 0, 6, 15, 5, 12), nil, api.ErrMark},
		"no marks":                  {example(), nil, nil, api.ErrMark},
		"wrong marks and years":     {example(), dated(0, 9, 5, 99, 7, 15), nil, api.ErrMark},
		"nothing":                   {api.World{}, nil, nil, api.OK},
		"an empty list":             {api.World{}, []api.Dated{}, nil, api.OK},
		"a mark of nothing":         {api.World{}, dated(0, 0), nil, api.ErrMark},
		"no claims":                 {world(nil, open(1, 3), open(2, 2)), nil, []int{0, 0}, api.OK},
		"no question":               {world(chainOf(3, 1)), dated(1, 7, 2, 9, 3, 14), nil, api.OK},
		"marks that do not occur":   {loose(), dated(0, 0, 3, -5, 4, 2, 5, 77, 6, 78, 8, 1000, 9, 999), []int{0, 0}, api.OK},
		"the middle choice":         {loose(), dated(0, 0, 3, 80, 4, 2, 5, 77, 6, 78, 8, 1000, 9, -5), []int{1, 1}, api.OK},
		"no choice of the second":   {one(run(3, 3), run(7, 9)), dated(1, 0, 2, 5), nil, api.ErrYear},
		"the second of two":         {one(run(3, 3), run(7, 9)), dated(1, -20, 2, -13), []int{1}, api.OK},
		"the first of two":          {one(run(3, 9), run(7, 9)), dated(1, -20, 2, -13), []int{0}, api.OK},
		"a year as far as may be":   {spread, dated(1, far, 2, far-100000, 3, -far, 4, far), []int{0}, api.OK},
		"a year as near as may be":  {spread, dated(1, -far, 2, -far, 3, far, 4, far), []int{0}, api.OK},
		"a year too far":            {spread, dated(1, 0, 2, 0, 3, far+1, 4, 0), nil, api.ErrYear},
		"a year too near":           {spread, dated(1, 0, 2, 0, 3, 0, 4, -far-1), nil, api.ErrYear},
		"years beyond all":          {spread, dated(1, math.MaxInt, 2, math.MinInt, 3, 0, 4, 0), nil, api.ErrYear},
		"years that differ by them": {spread, dated(1, math.MinInt, 2, math.MinInt, 3, 0, 4, 0), nil, api.ErrYear},
	} {
		if choices, e := cases.CheckChronology(c.w, c.d); !slices.Equal(choices, c.choices) || e != c.e {
			t.Error(name, choices, e)
		}
	}
}

// P5.4: of some years CheckChronology accepts exactly the chronologies, with the first choices of all.
func TestCheckChronologyOfSomeYears(t *testing.T) {
	d := dice(42)
	accepted, later := 0, 0
	for range 2000 {
		w := someWorld(d)
		choices, years, e := cases.Chronology(w, []int{d.IntN(30), d.IntN(9), d.IntN(9)})
		if e != api.OK {
			for _, mark := range marksOf(w) {
				years = append(years, api.Dated{Mark: mark, Year: d.IntN(5) - 2})
			}
		}
		if len(years) > 0 && d.IntN(2) == 0 {
			years[d.IntN(len(years))].Year += d.IntN(5) - 2
		}
		var want []int
		is := false
		for _, way := range ways(w, len(w.Questions)) {
			if !is && isChronology(w, way, years) {
				is, want = true, way
			}
		}
		got, e := cases.CheckChronology(w, years)
		if is != (e == api.OK) || !is && e != api.ErrYear || !slices.Equal(got, want) {
			t.Fatal(w, years, got, want, e)
		}
		if is {
			accepted++
			later += slices.Compare(choices, got)
		}
	}
	if accepted < 300 || later < 50 {
		t.Error("too little was tried", accepted, later)
	}
}

// P5.4: chronologies with given years.
func TestAttain(t *testing.T) {
	choices, d, e := cases.Attain(example(), 0, 6, 21)
	if !slices.Equal(choices, []int{1, 0}) && !slices.Equal(choices, []int{1, 2}) || !slices.Equal(d, dated(0, 0, 5, 12, 6, 21)) || e != api.OK {
		t.Error(choices, d, e)
	}
	for name, c := range map[string]struct {
		w     api.World
		a, b  int
		years []int
		e     api.Errno
	}{
		"the example":                        {example(), 0, 6, []int{13, 14, 15, 18, 19, 20, 21}, api.OK},
		"back":                               {example(), 6, 0, []int{-13, -15, -18, -21}, api.OK},
		"other numbers":                      {example(), 0, 6, []int{12, 16, 17, 22, 0, -13}, api.ErrYear},
		"one mark":                           {example(), 5, 5, []int{0}, api.OK},
		"the datum":                          {example(), 0, 0, []int{0}, api.OK},
		"one mark, other numbers":            {example(), 5, 5, []int{1, -1, far, -far}, api.ErrYear},
		"one mark that is not in all":        {loose(), 8, 8, []int{0}, api.OK},
		"one mark that the first has not":    {world(nil, question(1, nil, claims(claim(1, 2, 0, 0, 1)))), 2, 2, []int{0}, api.OK},
		"one loose mark, other numbers":      {loose(), 8, 8, []int{1, -1, far}, api.ErrYear},
		"too far":                            {loose(), 8, 5, []int{api.MaxReach + 1, -api.MaxReach - 1, far, -far, far + 1, math.MaxInt, math.MinInt}, api.ErrYear},
		"as far as may be":                   {loose(), 8, 5, []int{api.MaxReach, -api.MaxReach, api.MaxReach - 1, 7, 0}, api.OK},
		"marks of parts":                     {loose(), 5, 3, []int{api.MaxReach, -api.MaxReach, 3, 0, -1}, api.OK},
		"marks of parts, back":               {loose(), 3, 6, []int{api.MaxReach, -api.MaxReach, 3, 0, -1}, api.OK},
		"from a datum that does not occur":   {loose(), 0, 5, []int{api.MaxReach, -api.MaxReach, 4, 5}, api.OK},
		"to a datum that does not occur":     {loose(), 5, 0, []int{api.MaxReach, -api.MaxReach, -4, -5}, api.OK},
		"marks of which neither occurs":      {world(nil, question(1, nil, claims(claim(1, 2, 3, 4, 1)))), 1, 2, []int{api.MaxReach, -api.MaxReach, 3, 0}, api.OK},
		"the datum, and a mark, not in all":  {world(nil, question(1, nil, claims(claim(0, 2, 3, 4, 1)))), 2, 0, []int{api.MaxReach, -api.MaxReach, 3, 0}, api.OK},
		"from a mark tied to the datum":      {world(claims(claim(0, 5, 3, 9, 1), claim(7, 6, 4, 8, 1))), 5, 6, []int{api.MaxReach, -api.MaxReach, 3, 0}, api.OK},
		"to a mark tied to the datum":        {world(claims(claim(0, 5, 3, 9, 1), claim(7, 6, 4, 8, 1))), 6, 5, []int{api.MaxReach, -api.MaxReach, 3, 0}, api.OK},
		"only in the last leaf":              {one(run(3, 3), run(3, 3), run(7, 9)), 1, 2, []int{7, 8, 9}, api.OK},
		"a number of which no leaf is":       {one(run(3, 3), run(7, 9)), 1, 2, []int{4, 6, 10, far, math.MinInt}, api.ErrYear},
		"as far as claims go":                {world(chainOfFar(64)), 64, 1, []int{-6300000, 6300000, 0}, api.OK},
		"farther than claims go":             {world(chainOfFar(64)), 64, 1, []int{-6300001, 6300001}, api.ErrYear},
		"parts that are wide, and far apart": {world(append(chainOfFar(32), claim(40, 41, 100000, 100000, 1), claim(0, 1, 100000, 100000, 1))), 32, 41, []int{api.MaxReach, -api.MaxReach}, api.OK},
	} {
		for _, years := range c.years {
			choices, d, e := cases.Attain(c.w, c.a, c.b, years)
			if e != c.e {
				t.Error(name, years, e)
				continue
			}
			if e != api.OK {
				if len(choices) > 0 || len(d) > 0 {
					t.Error(name, years, choices, d)
				}
				continue
			}
			got := yearsOf(d)
			if !isChronology(c.w, choices, d) || got[c.b]-got[c.a] != years {
				t.Error(name, years, choices, d)
			}
		}
	}
}

// chainOfFar is a chain whose claims say as little as may be.
func chainOfFar(marks int) []api.Claim {
	l := chainOf(marks, 1)
	for i := range l {
		l[i].Lo, l[i].Hi = -100000, 100000
	}
	return l
}

// P5.4, P5.6: each one of Values is attained, and no other number.
func TestAttainAllValues(t *testing.T) {
	d := dice(43)
	tried := map[api.Errno]int{}
	for range 200 {
		w := someWorld(d)
		leaves := leavesOf(w)
		for _, a := range marksOf(w) {
			for _, b := range marksOf(w) {
				has, free := possible(w, a, b)
				for _, years := range append([]int{api.MaxReach, -api.MaxReach}, -14, -7, -6, -5, -4, -3, -2, -1, 0, 1, 2, 3, 4, 5, 6, 7, 14) {
					choices, l, e := cases.Attain(w, a, b, years)
					tried[e]++
					switch {
					case len(leaves) == 0:
						if e != api.ErrChronology {
							t.Fatal(w, a, b, years, e)
						}
					case !free && !has[years]:
						if e != api.ErrYear {
							t.Fatal(w, a, b, years, e)
						}
					default:
						got := yearsOf(l)
						if e != api.OK || !isChronology(w, choices, l) || got[b]-got[a] != years {
							t.Fatal(w, a, b, years, choices, l, e)
						}
					}
				}
			}
		}
	}
	if tried[api.OK] < 1000 || tried[api.ErrYear] < 1000 || tried[api.ErrChronology] < 1000 {
		t.Error("too little was tried", tried)
	}
}

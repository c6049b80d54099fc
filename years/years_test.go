package years_test

import (
	"math"
	"math/rand/v2"
	"slices"
	"testing"

	"gyttja/api"
	"gyttja/years"
)

// has says what the chapter says of the years of a list of runs.
func has(l []api.Run, year int) bool {
	return -far <= year && year <= far && slices.ContainsFunc(l, func(r api.Run) bool { return r.Lo <= year && year <= r.Hi })
}

// isNormal says what the chapter says of the normal form.
func isNormal(l []api.Run) bool {
	for i, r := range l {
		if r.Lo > r.Hi || r.Lo < -far || r.Hi > far || i > 0 && r.Lo-l[i-1].Hi < 2 {
			return false
		}
	}
	return true
}

// turns are years at which lists of runs may begin or end to have years, and those beside them.
func turns(lists ...[]api.Run) []int {
	years := []int{-far, far, 0}
	for _, l := range lists {
		for _, r := range l {
			for _, n := range []int{r.Lo, r.Hi} {
				n = max(-far-9, min(far+9, n))
				years = append(years, n-2, n-1, n, n+1, n+2)
			}
		}
	}
	return years
}

// isSet reports whether a list is the normal form of the years that are in.
func isSet(l []api.Run, in func(year int) bool, from ...[]api.Run) bool {
	for _, year := range turns(append(from, l)...) {
		if has(l, year) != (-far <= year && year <= far && in(year)) {
			return false
		}
	}
	return isNormal(l)
}

// someRuns are few runs in any order: short ones, some that have no years, and some that are far away.
func someRuns(d *rand.Rand, ends ...int) []api.Run {
	var l []api.Run
	for range d.IntN(6) {
		lo := d.IntN(24) - 12
		r := api.Run{Lo: lo, Hi: lo + d.IntN(8) - 2}
		if len(ends) > 0 && d.IntN(5) == 0 {
			r.Lo = someOf(d, ends)
		}
		if len(ends) > 0 && d.IntN(5) == 0 {
			r.Hi = someOf(d, ends)
		}
		l = append(l, r)
	}
	return l
}

// farEnds are at and beyond the ends of all years.
var farEnds = []int{math.MinInt, -far - 2, -far - 1, -far, -far + 1, -far + 2, far - 2, far - 1, far, far + 1, far + 2, math.MaxInt}

// P6.1: the normal form of lists.
func TestNormal(t *testing.T) {
	for name, c := range map[string]struct{ l, want []api.Run }{
		"the example":             {runs(5, 6, 1, 2, 3, 4, 9, 8), runs(1, 6)},
		"no run":                  {nil, nil},
		"an empty list":           {runs(), nil},
		"a run without years":     {runs(2, 1), nil},
		"a run of one year":       {runs(2, 2), runs(2, 2)},
		"runs that touch":         {runs(1, 2, 3, 4), runs(1, 4)},
		"a gap of a year":         {runs(1, 2, 4, 5), runs(1, 2, 4, 5)},
		"runs in another order":   {runs(9, 9, 4, 5, 1, 2), runs(1, 2, 4, 5, 9, 9)},
		"runs that overlap":       {runs(1, 5, 3, 8, 8, 9), runs(1, 9)},
		"a run within another":    {runs(1, 9, 3, 4, 11, 12), runs(1, 9, 11, 12)},
		"runs that begin alike":   {runs(1, 2, 1, 9, 1, 1), runs(1, 9)},
		"runs that end alike":     {runs(1, 9, 5, 9, 9, 9), runs(1, 9)},
		"the same run":            {runs(1, 2, 1, 2, 1, 2), runs(1, 2)},
		"no years between others": {runs(1, 2, 7, 3, 4, 5), runs(1, 2, 4, 5)},
		"all years":               {runs(-far, far), runs(-far, far)},
		"more than all":           {runs(math.MinInt, math.MaxInt), runs(-far, far)},
		"both halves":             {runs(0, math.MaxInt, math.MinInt, -1), runs(-far, far)},
		"beyond the ends":         {runs(far+1, far+9, -far-9, -far-1), nil},
		"at the ends":             {runs(far, far+9, -far-9, -far), runs(-far, -far, far, far)},
		"beside the ends":         {runs(far-1, far-1, -far+1, -far+1), runs(-far+1, -far+1, far-1, far-1)},
		"up to the ends":          {runs(far-1, far-1, far, far, -far+1, 0, -far, -far), runs(-far, 0, far-1, far)},
		"turned round":            {runs(math.MaxInt, math.MinInt, far, -far), nil},
	} {
		if l := years.Normal(c.l); !slices.Equal(l, c.want) {
			t.Error(name, l)
		}
	}
}

// P6.1: CheckRuns accepts the normal form alone, and tells of its length first.
func TestCheckRuns(t *testing.T) {
	most := make([]api.Run, api.MaxRuns)
	for i := range most {
		most[i] = api.Run{Lo: 3 * i, Hi: 3*i + 1}
	}
	wrong := slices.Clone(most)
	wrong[399].Lo--
	for name, c := range map[string]struct {
		l []api.Run
		e api.Errno
	}{
		"nothing":                 {nil, api.OK},
		"an empty list":           {runs(), api.OK},
		"one run":                 {runs(3, 3), api.OK},
		"a gap of a year":         {runs(1, 2, 4, 4), api.OK},
		"runs that touch":         {runs(1, 2, 3, 4), api.ErrRuns},
		"runs that overlap":       {runs(1, 2, 2, 4), api.ErrRuns},
		"the same run":            {runs(1, 2, 1, 2), api.ErrRuns},
		"runs in another order":   {runs(4, 5, 1, 2), api.ErrRuns},
		"a run without years":     {runs(2, 1), api.ErrRuns},
		"such a one behind it":    {runs(0, 1, 4, 3), api.ErrRuns},
		"all years":               {runs(-far, far), api.OK},
		"too far below":           {runs(0, far+1), api.ErrRuns},
		"too far above":           {runs(-far-1, 0), api.ErrRuns},
		"beyond the ends":         {runs(far+1, far+2), api.ErrRuns},
		"at the ends":             {runs(-far, -far, far, far), api.OK},
		"any number":              {runs(math.MinInt, math.MaxInt), api.ErrRuns},
		"as many as may be":       {most, api.OK},
		"as many, one is wrong":   {wrong, api.ErrRuns},
		"too many":                {append(slices.Clone(most), api.Run{Lo: 5000, Hi: 5000}), api.ErrLong},
		"too many, one is wrong":  {append(slices.Clone(wrong), api.Run{Lo: 5000, Hi: 5000}), api.ErrLong},
		"too many without a year": {make([]api.Run, 401), api.ErrLong},
	} {
		if e := years.CheckRuns(c.l); e != c.e {
			t.Error(name, e)
		}
	}
}

// P6.1, P6.2: the normal form, union, common years and the others have exactly the years that they should.
func TestSetsOfSomeRuns(t *testing.T) {
	d := dice(1)
	for i := range 20000 {
		ends := farEnds
		if i%2 == 0 {
			ends = nil
		}
		a, b := someRuns(d, ends...), someRuns(d, ends...)
		inA, inB := func(n int) bool { return has(a, n) }, func(n int) bool { return has(b, n) }
		n := years.Normal(a)
		if !isSet(n, inA, a) {
			t.Fatal("Normal", a, n)
		}
		if again := years.Normal(n); !slices.Equal(n, again) {
			t.Fatal("Normal of Normal", a, again)
		}
		if e := years.CheckRuns(n); e != api.OK {
			t.Fatal("CheckRuns of Normal", a, n, e)
		}
		if e := years.CheckRuns(a); (e == api.OK) != isNormal(a) || e != api.OK && e != api.ErrRuns {
			t.Fatal("CheckRuns", a, e)
		}
		if l := years.Union(a, b); !isSet(l, func(n int) bool { return inA(n) || inB(n) }, a, b) {
			t.Fatal("Union", a, b, l)
		}
		if l := years.Common(a, b); !isSet(l, func(n int) bool { return inA(n) && inB(n) }, a, b) {
			t.Fatal("Common", a, b, l)
		}
		if l := years.Less(a, b); !isSet(l, func(n int) bool { return inA(n) && !inB(n) }, a, b) {
			t.Fatal("Less", a, b, l)
		}
		for _, year := range turns(a, b) {
			if years.Has(a, year) != inA(year) {
				t.Fatal("Has", a, year)
			}
		}
	}
}

// P6.1: the chapter's sets, empty ones, and those without end.
func TestSets(t *testing.T) {
	all := runs(-far, far)
	for name, c := range map[string]struct {
		a, b, union, common, less []api.Run
	}{
		"the example":          {all, runs(0, 0), all, runs(0, 0), runs(-far, -1, 1, far)},
		"nothing":              {nil, nil, nil, nil, nil},
		"nothing and some":     {nil, runs(1, 2), runs(1, 2), nil, nil},
		"some and nothing":     {runs(3, 4, 1, 1), nil, runs(1, 1, 3, 4), nil, runs(1, 1, 3, 4)},
		"the same":             {runs(1, 2), runs(2, 2, 1, 1), runs(1, 2), runs(1, 2), nil},
		"all and all":          {all, runs(math.MinInt, math.MaxInt), all, all, nil},
		"all but an end":       {all, runs(far, far), all, runs(far, far), runs(-far, far-1)},
		"all but the other":    {all, runs(-far, -far), all, runs(-far, -far), runs(-far+1, far)},
		"side by side":         {runs(1, 3), runs(4, 6), runs(1, 6), nil, runs(1, 3)},
		"one lies between":     {runs(1, 3, 5, 7), runs(4, 4), runs(1, 7), nil, runs(1, 3, 5, 7)},
		"one parts the other":  {runs(1, 9), runs(3, 3, 5, 6), runs(1, 9), runs(3, 3, 5, 6), runs(1, 2, 4, 4, 7, 9)},
		"they share an end":    {runs(1, 5), runs(5, 9), runs(1, 9), runs(5, 5), runs(1, 4)},
		"beyond the ends":      {runs(far+1, far+5), runs(far+1, far+5), nil, nil, nil},
		"twice in one of them": {runs(1, 5, 2, 9), runs(3, 3, 3, 4), runs(1, 9), runs(3, 4), runs(1, 2, 5, 9)},
	} {
		if l := years.Union(c.a, c.b); !slices.Equal(l, c.union) {
			t.Error("Union", name, l)
		}
		if l := years.Union(c.b, c.a); !slices.Equal(l, c.union) {
			t.Error("Union, turned", name, l)
		}
		if l := years.Common(c.a, c.b); !slices.Equal(l, c.common) {
			t.Error("Common", name, l)
		}
		if l := years.Common(c.b, c.a); !slices.Equal(l, c.common) {
			t.Error("Common, turned", name, l)
		}
		if l := years.Less(c.a, c.b); !slices.Equal(l, c.less) {
			t.Error("Less", name, l)
		}
	}
}

// P6.1: functions of sets accept, and return, more than MaxRuns runs.
func TestManyRuns(t *testing.T) {
	var even, odd []api.Run
	for n := range 3000 {
		even, odd = append(even, api.Run{Lo: 4 * n, Hi: 4 * n}), append(odd, api.Run{Lo: 4*n + 2, Hi: 4*n + 2})
	}
	both := years.Union(odd, even)
	if n, e := years.Size(both); len(both) != 6000 || n != 6000 || e != api.OK {
		t.Error(len(both), n, e)
	}
	if l := years.Less(both, even); !slices.Equal(l, odd) {
		t.Error(len(l))
	}
	if l := years.Common(both, even); !slices.Equal(l, even) {
		t.Error(len(l))
	}
	if l := years.Spread(both, 0, 1); !slices.Equal(l, runs(0, 11999)) {
		t.Error(len(l))
	}
	if years.CheckRuns(both) != api.ErrLong || !years.Has(both, 11998) || years.Has(both, 11999) {
		t.Error("6000 runs")
	}
}

// P6.1: sums of years and numbers, with ends that stay, and such as are clipped.
func TestSpread(t *testing.T) {
	for name, c := range map[string]struct {
		l      []api.Run
		lo, hi int
		want   []api.Run
	}{
		"the example":                   {runs(1, 2, 6, 6), -1, 2, runs(0, 8)},
		"by nothing":                    {runs(5, 6, 1, 2, 3, 4), 0, 0, runs(1, 6)},
		"no years":                      {nil, -1, 1, nil},
		"upwards":                       {runs(1, 2, 6, 6), -9, -8, runs(-8, -6, -3, -2)},
		"downwards":                     {runs(1, 2, 6, 6), 10, 10, runs(11, 12, 16, 16)},
		"runs that come to touch":       {runs(1, 2, 6, 6), 0, 3, runs(1, 9)},
		"runs that do not quite":        {runs(1, 2, 6, 6), 0, 2, runs(1, 4, 6, 8)},
		"turned round":                  {runs(1, 2), 1, 0, nil},
		"as far as may be":              {runs(0, 0), -far, far, runs(-far, far)},
		"too far upwards":               {runs(0, 0), -far - 1, 0, nil},
		"too far downwards":             {runs(0, 0), 0, far + 1, nil},
		"any numbers":                   {runs(0, 0), math.MinInt, math.MaxInt, nil},
		"an end above stays":            {runs(-far, 0), 5, 7, runs(-far, 7)},
		"an end below stays":            {runs(0, far), -7, -5, runs(-7, far)},
		"both ends stay":                {runs(-far, far), 5, 7, runs(-far, far)},
		"both ends stay, upwards":       {runs(-far, far), -far, -far, runs(-far, far)},
		"clipped below":                 {runs(0, far-1), 1, 4, runs(1, far)},
		"clipped above":                 {runs(-far+1, 0), -4, -1, runs(-far, -1)},
		"not quite clipped":             {runs(0, far-2), 0, 1, runs(0, far-1)},
		"not quite clipped above":       {runs(-far+2, 0), -1, 0, runs(-far+1, 0)},
		"beyond the end":                {runs(far-3, far-1), 4, 5, nil},
		"beyond the end above":          {runs(-far+1, -far+3), -5, -4, nil},
		"just at the end":               {runs(far-3, far-1), 3, 5, runs(far, far)},
		"the last year, downwards":      {runs(far, far), 5, 5, nil},
		"the last year, upwards":        {runs(far, far), -5, -5, runs(far-5, far)},
		"the first year, upwards":       {runs(-far, -far), -5, -5, nil},
		"the first year, downwards":     {runs(-far, -far), 5, 5, runs(-far, -far+5)},
		"without end once it is normal": {runs(0, far-1, far, far), 2, 2, runs(2, far)},
		"clipped by the normal form":    {runs(0, far+9), -5, -5, runs(-5, far)},
		"from beyond the end":           {runs(far+1, far+9), -20, -20, nil},
		"by as far as may be":           {runs(1, far-1), far, far, nil},
		"by as far, from the other end": {runs(-far+1, -far+2), far, far, runs(1, 2)},
	} {
		if l := years.Spread(c.l, c.lo, c.hi); !slices.Equal(l, c.want) {
			t.Error(name, l)
		}
	}
}

// P6.1, P6.2: Spread has exactly all sums; and spread twice is spread by the sums.
func TestSpreadOfSomeRuns(t *testing.T) {
	d := dice(2)
	for range 5000 {
		l := someRuns(d)
		lo, lo2 := d.IntN(13)-6, d.IntN(13)-6
		hi, hi2 := lo+d.IntN(5), lo2+d.IntN(5)
		once := years.Spread(l, lo, hi)
		sum := func(year int) bool {
			for n := lo; n <= hi; n++ {
				if has(l, year-n) {
					return true
				}
			}
			return false
		}
		if !isSet(once, sum, l) {
			t.Fatal(l, lo, hi, once)
		}
		for year := -30; year <= 30; year++ {
			if has(once, year) != sum(year) {
				t.Fatal(l, lo, hi, once, year)
			}
		}
		twice := years.Spread(once, lo2, hi2)
		if want := years.Spread(l, lo+lo2, hi+hi2); !slices.Equal(twice, want) {
			t.Fatal(l, lo, hi, lo2, hi2, twice, want)
		}
	}
}

// P6.2: spread twice, where ends are without end and stay so.
func TestSpreadTwiceWithoutEnd(t *testing.T) {
	for _, l := range [][]api.Run{runs(-far, 3, 9, 11), runs(2, 4, 9, far), runs(-far, -5, 6, far), runs(-far, far)} {
		for lo := -3; lo <= 3; lo++ {
			for hi := lo; hi <= 3; hi++ {
				twice := years.Spread(years.Spread(l, lo, hi), -2, 1)
				if want := years.Spread(l, lo-2, hi+1); !slices.Equal(twice, want) {
					t.Error(l, lo, hi, twice, want)
				}
			}
		}
	}
}

// P6.1: numbers of years, unless there is no end.
func TestSize(t *testing.T) {
	for name, c := range map[string]struct {
		l []api.Run
		n int
		e api.Errno
	}{
		"the example":           {runs(1, 3, 5, 5), 4, api.OK},
		"without end":           {runs(1, far), 0, api.ErrFar},
		"without end above":     {runs(-far, 1, 5, 6), 0, api.ErrFar},
		"without any end":       {runs(-far, far), 0, api.ErrFar},
		"behind another run":    {runs(far, far, 1, 2), 0, api.ErrFar},
		"beyond the end":        {runs(1, 2, 5, far+1), 0, api.ErrFar},
		"any numbers":           {runs(math.MinInt, math.MaxInt), 0, api.ErrFar},
		"no years":              {nil, 0, api.OK},
		"no years of runs":      {runs(3, 2, far+1, far+2), 0, api.OK},
		"runs that overlap":     {runs(1, 5, 3, 7, 3, 3), 7, api.OK},
		"all but both ends":     {runs(-far+1, far-1), 2*far - 1, api.OK},
		"one year, far away":    {runs(far-1, far-1), 1, api.OK},
		"one year, the first":   {runs(-far, -far), 0, api.ErrFar},
		"one year, the datum's": {runs(0, 0), 1, api.OK},
	} {
		if n, e := years.Size(c.l); n != c.n || e != c.e {
			t.Error(name, n, e)
		}
	}
}

// P6.2: the sizes of both sets together are those of the union and the common years.
func TestSizesOfSomeRuns(t *testing.T) {
	d := dice(3)
	for range 5000 {
		a, b := someRuns(d), someRuns(d)
		n := 0
		for year := -30; year <= 30; year++ {
			if has(a, year) {
				n++
			}
		}
		of := func(l []api.Run) int {
			n, e := years.Size(l)
			if e != api.OK {
				t.Fatal(l, e)
			}
			return n
		}
		if of(a) != n || of(a)+of(b) != of(years.Union(a, b))+of(years.Common(a, b)) || of(years.Less(a, b)) != n-of(years.Common(a, b)) {
			t.Fatal(a, b)
		}
	}
}

// P6.1: a year beyond the ends is in no set.
func TestHas(t *testing.T) {
	for _, c := range []struct {
		l    []api.Run
		year int
		want bool
	}{
		{runs(1, 3), 3, true}, {runs(1, 3), 1, true}, {runs(1, 3), 4, false}, {runs(1, 3), 0, false}, {nil, 0, false}, {runs(3, 1), 2, false},
		{runs(7, 9, 1, 3), 2, true}, {runs(7, 9, 1, 3), 5, false}, {runs(-far, far), far, true}, {runs(-far, far), -far, true},
		{runs(math.MinInt, math.MaxInt), far, true}, {runs(math.MinInt, math.MaxInt), far + 1, false}, {runs(math.MinInt, math.MaxInt), -far - 1, false},
		{runs(math.MinInt, math.MaxInt), math.MaxInt, false}, {runs(far+1, far+1), far + 1, false}, {runs(far, far+1), far, true},
	} {
		if years.Has(c.l, c.year) != c.want {
			t.Error(c)
		}
	}
}

package office_test

import (
	"slices"
	"testing"

	"gyttja/api"
	"gyttja/office"
)

// places are those of the entries with some indices.
func places(b api.Book, indices []int) []api.Place {
	var l []api.Place
	for _, i := range indices {
		l = append(l, b.Entries[i].At)
	}
	return l
}

// P8.3: the chapter's examples.
func TestStanding(t *testing.T) {
	b := example()
	x, y := at(0, 0), at(1, 0)
	for hour, want := range [][]api.Place{5: {x}, 6: {x, y}, 7: {x, y}, 8: {y}, 9: {x, y}, 10: {x, y}, 11: {x, y}} {
		if l := office.Standing(b, hour); !slices.Equal(places(b, l), want) {
			t.Error(hour, l)
		}
	}
	if l := office.Standing(b, 10); !slices.Equal(l, []int{0, 2}) {
		t.Error(l)
	}
}

// P8.3: the chapter's examples, and the errors of Heir in their order.
func TestHeir(t *testing.T) {
	for _, c := range []struct {
		at   api.Place
		hour int
		heir api.Place
		want api.Errno
	}{
		{at(0, 0), 5, at(0, 0), api.OK}, {at(0, 0), 6, at(0, 0), api.OK}, {at(0, 0), 7, at(0, 1), api.OK}, {at(0, 0), 9, at(0, 1), api.OK}, {at(0, 0), 10, at(0, 0), api.OK}, {at(1, 0), 10, at(1, 0), api.OK},
		{at(0, 0), 8, api.Place{}, api.ErrNone},
		{at(0, 0), 4, api.Place{}, api.ErrEntry}, {at(1, 0), 5, api.Place{}, api.ErrEntry}, {at(0, 0), -1, api.Place{}, api.ErrEntry}, // not known yet
		{at(0, 1), 7, api.Place{}, api.ErrEntry}, {at(1, 1), 8, api.Place{}, api.ErrEntry}, {at(2, 0), 9, api.Place{}, api.ErrEntry}, {at(1, 2), 10, api.Place{}, api.ErrEntry}, // no base entries
		{at(0, 2), 10, api.Place{}, api.ErrEntry}, {at(-1, 0), 10, api.Place{}, api.ErrEntry}, {at(8, 99999), 10, api.Place{}, api.ErrEntry},
	} {
		if p, e := office.Heir(example(), c.at, c.hour); p != c.heir || e != c.want {
			t.Error(c.at, c.hour, p, e)
		}
	}
	for _, bad := range badBooks() {
		if p, e := office.Heir(bad, at(0, 0), 100000); p != (api.Place{}) || e != api.ErrBook {
			t.Error(bad, p, e)
		}
	}
}

// P8.3: what entries say of each other, told by the heirs at one hour.
func TestWhatStands(t *testing.T) {
	x := sheet(at(1, 5), 5)
	correct := func(at api.Place, hour int, of api.Place) api.Entry { return says(api.EntCorrect, at, hour, of) }
	withdraw := func(at api.Place, hour int, of api.Place) api.Entry { return says(api.EntWithdraw, at, hour, of) }
	doubt := func(at api.Place, hour int, of api.Place) api.Entry { return says(api.EntDoubt, at, hour, of) }
	trust := func(at api.Place, hour int, of api.Place) api.Entry { return says(api.EntTrust, at, hour, of) }
	gone := at(-1, -1) // x does not stand
	c, d := at(2, 0), at(2, 1)
	for name, test := range map[string]struct {
		l    []api.Entry
		heir api.Place
	}{
		"nothing is said":                           {nil, x.At},
		"withdrawn":                                 {[]api.Entry{withdraw(c, 6, x.At)}, gone},
		"withdrawn at the same hour, behind it":     {[]api.Entry{withdraw(at(1, 6), 5, x.At)}, gone},
		"withdrawn at the same hour, ahead of it":   {[]api.Entry{withdraw(at(1, 4), 5, x.At)}, x.At},
		"of a lesser office at the same hour":       {[]api.Entry{withdraw(at(0, 9), 5, x.At)}, x.At},
		"of a greater office at the same hour":      {[]api.Entry{withdraw(at(2, 0), 5, x.At)}, gone},
		"of a lesser office at a later hour":        {[]api.Entry{withdraw(at(0, 0), 6, x.At)}, gone},
		"withdrawn at an earlier hour":              {[]api.Entry{withdraw(c, 4, x.At)}, x.At},
		"withdrawn, not known yet":                  {[]api.Entry{withdraw(c, 21, x.At)}, x.At},
		"withdrawn, known just now":                 {[]api.Entry{withdraw(c, 20, x.At)}, gone},
		"another entry is withdrawn":                {[]api.Entry{withdraw(c, 6, at(1, 4))}, x.At},
		"withdrawn and trusted":                     {[]api.Entry{withdraw(c, 6, x.At), trust(d, 7, x.At)}, gone},
		"withdrawn by a withdrawn one":              {[]api.Entry{withdraw(c, 6, x.At), withdraw(d, 7, c)}, gone},
		"withdrawn by a doubted one":                {[]api.Entry{withdraw(c, 6, x.At), doubt(d, 7, c)}, gone},
		"withdrawn by a corrected one":              {[]api.Entry{withdraw(c, 6, x.At), correct(d, 7, c)}, gone},
		"doubted":                                   {[]api.Entry{doubt(c, 6, x.At)}, gone},
		"doubted at an earlier hour":                {[]api.Entry{doubt(c, 4, x.At)}, x.At},
		"doubted ahead, trusted further ahead":      {[]api.Entry{doubt(c, 4, x.At), trust(d, 3, x.At)}, x.At},
		"trusted":                                   {[]api.Entry{trust(c, 6, x.At)}, x.At},
		"doubted, then trusted":                     {[]api.Entry{doubt(c, 6, x.At), trust(d, 7, x.At)}, x.At},
		"trusted, then doubted":                     {[]api.Entry{trust(c, 6, x.At), doubt(d, 7, x.At)}, gone},
		"both at one hour, trusted behind":          {[]api.Entry{doubt(c, 6, x.At), trust(d, 6, x.At)}, x.At},
		"both at one hour, doubted behind":          {[]api.Entry{trust(c, 6, x.At), doubt(d, 6, x.At)}, gone},
		"doubted behind by a lesser place":          {[]api.Entry{doubt(c, 7, x.At), trust(d, 6, x.At)}, gone},
		"doubted by a withdrawn one":                {[]api.Entry{doubt(c, 6, x.At), withdraw(d, 7, c)}, gone},
		"doubted by a doubted one":                  {[]api.Entry{doubt(c, 6, x.At), doubt(d, 7, c)}, gone},
		"trusted by a withdrawn one":                {[]api.Entry{doubt(at(1, 9), 6, x.At), trust(c, 7, x.At), withdraw(d, 8, c)}, x.At},
		"doubted, trusted later on":                 {[]api.Entry{doubt(c, 6, x.At), trust(d, 21, x.At)}, gone},
		"corrected":                                 {[]api.Entry{correct(c, 6, x.At)}, c},
		"corrected ahead of it":                     {[]api.Entry{correct(c, 4, x.At)}, x.At},
		"corrected, not known yet":                  {[]api.Entry{correct(c, 21, x.At)}, x.At},
		"corrected by itself":                       {[]api.Entry{correct(c, 6, c)}, x.At},
		"corrected twice":                           {[]api.Entry{correct(c, 6, x.At), correct(d, 7, x.At)}, d},
		"corrected twice, by a lesser place behind": {[]api.Entry{correct(c, 8, x.At), correct(d, 7, x.At)}, c},
		"corrected twice at one hour":               {[]api.Entry{correct(c, 7, x.At), correct(d, 7, x.At)}, d},
		"the second correction is withdrawn":        {[]api.Entry{correct(c, 6, x.At), correct(d, 7, x.At), withdraw(at(3, 0), 8, d)}, c},
		"both corrections are withdrawn":            {[]api.Entry{correct(c, 6, x.At), correct(d, 7, x.At), withdraw(at(3, 0), 8, d), withdraw(at(3, 1), 9, c)}, x.At},
		"withdrawn ahead of the correction":         {[]api.Entry{correct(c, 6, x.At), withdraw(at(3, 0), 5, c)}, c},
		"the second correction is doubted":          {[]api.Entry{correct(c, 6, x.At), correct(d, 7, x.At), doubt(at(3, 0), 8, d)}, gone},
		"the first correction is doubted":           {[]api.Entry{correct(c, 6, x.At), correct(d, 7, x.At), doubt(at(3, 0), 8, c)}, d},
		"the correction is corrected":               {[]api.Entry{correct(c, 6, x.At), correct(d, 7, c)}, d},
		"ahead of it, the correction is corrected":  {[]api.Entry{correct(c, 6, x.At), correct(d, 5, c)}, c},
		"a correction on the way is withdrawn":      {[]api.Entry{correct(c, 6, x.At), correct(d, 7, c), withdraw(at(3, 0), 8, c)}, x.At},
		"a correction on the way is doubted":        {[]api.Entry{correct(c, 6, x.At), correct(d, 7, c), doubt(at(3, 0), 8, c)}, d},
		"doubted, and corrected":                    {[]api.Entry{doubt(c, 6, x.At), correct(d, 7, x.At)}, d},
		"corrected, and doubted behind":             {[]api.Entry{correct(c, 6, x.At), doubt(d, 7, x.At)}, c},
		"withdrawn, and corrected":                  {[]api.Entry{withdraw(c, 6, x.At), correct(d, 7, x.At)}, gone},
		"two corrections of each other":             {[]api.Entry{correct(c, 6, d), correct(d, 7, c)}, x.At},
		"corrected by one that corrects its heir":   {[]api.Entry{correct(c, 6, x.At), correct(d, 5, c), correct(at(3, 0), 7, c), correct(at(3, 1), 7, d)}, at(3, 0)},
	} {
		b := bookOf(append(test.l, x)...)
		if e := office.CheckBook(b); e != api.OK {
			t.Fatal(name, e)
		}
		p, e := office.Heir(b, x.At, 20)
		stands := slices.Contains(places(b, office.Standing(b, 20)), x.At)
		if test.heir == gone {
			if e != api.ErrNone || stands {
				t.Error(name, p, e, stands)
			}
			continue
		}
		if p != test.heir || e != api.OK || !stands {
			t.Error(name, p, e, stands)
		}
	}
}

// P8.3: the chapter's example, and the other hours of its book.
func TestChanges(t *testing.T) {
	x, y, z := at(0, 0), at(1, 0), at(0, 1)
	for _, c := range []struct {
		before, after int
		came, went    []api.Place
	}{
		{6, 7, []api.Place{z}, []api.Place{x}}, {7, 6, []api.Place{x}, []api.Place{z}},
		{7, 8, nil, []api.Place{z}}, {8, 9, []api.Place{z}, nil}, {9, 10, []api.Place{x}, []api.Place{z}}, {6, 10, nil, nil}, {7, 9, nil, nil}, {5, 5, nil, nil},
		{-1, 10, []api.Place{x, y}, nil}, {100001, 0, nil, []api.Place{x, y}}, {0, 7, []api.Place{z, y}, nil}, {0, 8, []api.Place{y}, nil},
	} {
		came, went := office.Changes(example(), c.before, c.after)
		if !slices.Equal(came, c.came) || !slices.Equal(went, c.went) {
			t.Error(c.before, c.after, came, went)
		}
	}
	// Places rise, although the heir of the first entry has the last place.
	b := bookOf(entryX, entryY, says(api.EntCorrect, at(5, 0), 7, at(0, 0)), says(api.EntCorrect, at(4, 0), 8, at(1, 0)))
	if came, went := office.Changes(b, 6, 8); !slices.Equal(came, []api.Place{at(4, 0), at(5, 0)}) || !slices.Equal(went, []api.Place{x, y}) {
		t.Error(came, went)
	}
	for _, bad := range badBooks() {
		if came, went := office.Changes(bad, 0, 100000); len(came) != 0 || len(went) != 0 {
			t.Error(bad, came, went)
		}
		if l := office.Standing(bad, 100000); len(l) != 0 {
			t.Error(bad, l)
		}
	}
}

// risingHeirs are the heirs that are told, by their places.
func risingHeirs(heirs map[api.Place]api.Place) []api.Place {
	var l []api.Place
	for _, p := range heirs {
		l = append(l, p)
	}
	slices.SortFunc(l, order)
	return l
}

// P8.3: what stands of any entries, by replaying them.
func TestReplay(t *testing.T) {
	d := dice(6)
	corrected, fell := 0, 0
	for range 20000 {
		b := bookOf(someEntries(d, 18)...)
		hour, before := d.IntN(10)-1, d.IntN(10)-1
		heirs := told(b, hour)
		var standing []int
		for i, x := range b.Entries {
			heir, stands := heirs[x.At]
			if stands {
				standing = append(standing, i)
			}
			p, e := office.Heir(b, x.At, hour)
			want := api.OK
			switch {
			case x.Kind > api.EntNote || x.Hour > hour:
				want = api.ErrEntry
			case !stands:
				want = api.ErrNone
				fell++
			case heir != x.At:
				corrected++
			}
			if p != heir || e != want {
				t.Fatal(b, hour, x.At, p, e, heir, want)
			}
		}
		if l := office.Standing(b, hour); !slices.Equal(l, standing) {
			t.Fatal(b, hour, l, standing)
		}
		earlier, later := risingHeirs(told(b, before)), risingHeirs(heirs)
		came, went := office.Changes(b, before, hour)
		lack := func(l []api.Place) func(api.Place) bool {
			return func(p api.Place) bool { return slices.Contains(l, p) }
		}
		if !slices.Equal(came, slices.DeleteFunc(slices.Clone(later), lack(earlier))) || !slices.Equal(went, slices.DeleteFunc(slices.Clone(earlier), lack(later))) {
			t.Fatal(b, before, hour, came, went)
		}
	}
	if corrected < 300 || fell < 300 {
		t.Error(corrected, fell)
	}
}

// P8.6: what stands depends on the entries that are known alone, not on the order in which they came.
func TestAnyOrder(t *testing.T) {
	d := dice(7)
	for range 1000 {
		l := someEntries(d, 18)
		hour := d.IntN(9)
		var b, known api.Book
		for _, x := range shuffled(d, l) {
			b = first(office.Add(b, x))
			if x.Hour <= hour {
				known = first(office.Add(known, x))
			}
		}
		if !sameBooks(b, bookOf(l...)) {
			t.Fatal(l, b)
		}
		all, few := places(b, office.Standing(b, hour)), places(known, office.Standing(known, hour))
		if !slices.Equal(all, few) || !slices.Equal(few, places(known, office.Standing(known, 100000))) {
			t.Fatal(b, hour, all, few)
		}
		for _, p := range all {
			one, e := office.Heir(b, p, hour)
			if other, f := office.Heir(known, p, hour); e != api.OK || f != api.OK || one != other {
				t.Fatal(b, hour, p, one, other)
			}
		}
	}
}

// P8.9: without anything that takes back, all that is known stands, each entry its own heir.
func TestNothingTakenBack(t *testing.T) {
	d := dice(8)
	for range 2000 {
		b := bookOf(slices.DeleteFunc(someEntries(d, 30), func(x api.Entry) bool {
			return x.Kind == api.EntWithdraw || x.Kind == api.EntDoubt || x.Kind == api.EntCorrect
		})...)
		hour := d.IntN(8)
		for _, x := range b.Entries {
			if x.Kind > api.EntNote || x.Hour > hour {
				continue
			}
			if p, e := office.Heir(b, x.At, hour); p != x.At || e != api.OK {
				t.Fatal(b, hour, x.At, p, e)
			}
		}
	}
}

// P8.9: nothing stands again unless an entry says so in between.
func TestStandsAgain(t *testing.T) {
	d := dice(9)
	again := 0
	for range 20000 {
		b := bookOf(someEntries(d, 30)...)
		for to := 1; to < 8; to++ {
			from := to - 1 - d.IntN(to)
			said := slices.ContainsFunc(b.Entries, func(x api.Entry) bool {
				return (x.Kind == api.EntTrust || x.Kind == api.EntWithdraw || x.Kind == api.EntCorrect) && from < x.Hour && x.Hour <= to
			})
			for _, i := range office.Standing(b, to) {
				if b.Entries[i].Hour > from || slices.Contains(office.Standing(b, from), i) {
					continue
				}
				again++
				if !said {
					t.Fatal(b, from, to, i)
				}
			}
		}
	}
	if again < 50 {
		t.Error(again)
	}
}

// P8.3: books at the limits, with chains of corrections as long as there may be.
func TestLongChains(t *testing.T) {
	chain := api.Book{Entries: []api.Entry{sheet(at(0, 0), 0)}}
	for i := 1; i < 200; i++ {
		chain.Entries = append(chain.Entries, says(api.EntCorrect, at(0, i), i, at(0, i-1)))
	}
	broad := api.Book{Entries: []api.Entry{sheet(at(0, 0), 0)}}
	for i := 1; i < 100; i++ {
		broad.Entries = append(broad.Entries, says(api.EntCorrect, at(0, i), i, at(0, 0)))
	}
	for i := range 100 {
		broad.Entries = append(broad.Entries, says(api.EntWithdraw, at(1, i), 200-i, at(0, i)))
	}
	for hour := range 200 {
		if p, e := office.Heir(chain, at(0, 0), hour); e != api.OK || p != at(0, hour) {
			t.Fatal(hour, p, e)
		}
		want := told(broad, hour)[at(0, 0)]
		if p, e := office.Heir(broad, at(0, 0), hour); e != api.OK || p != want {
			t.Fatal(hour, p, want, e)
		}
	}
	if _, e := office.Heir(broad, at(0, 0), 200); e != api.ErrNone {
		t.Error(e)
	}
}

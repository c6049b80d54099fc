package office_test

import (
	"math"
	"math/rand/v2"
	"slices"
	"testing"

	"gyttja/api"
	"gyttja/office"
)

// P8.2: books at the limits are valid.
func TestCheckBook(t *testing.T) {
	for _, b := range []api.Book{{}, {Entries: []api.Entry{}}, example(), long(200), bookOf(entryU), bookOf(sheet(at(0, 9999), 5), sheet(at(1, 0), 0))} {
		if e := office.CheckBook(b); e != api.OK {
			t.Error(len(b.Entries), e)
		}
	}
	for i, b := range badBooks() {
		if e := office.CheckBook(b); e != api.ErrBook {
			t.Error(i, len(b.Entries), e)
		}
	}
	// Each entry counts, wherever it is.
	for i := range 6 {
		b := example()
		b.Entries[i].Reader = 100
		if e := office.CheckBook(b); e != api.ErrBook {
			t.Error(i, e)
		}
	}
}

// P8.2: an entry is put at its place, once.
func TestAdd(t *testing.T) {
	for _, x := range example().Entries {
		rest := slices.DeleteFunc(example().Entries, func(y api.Entry) bool { return x == y })
		for _, l := range [][]api.Entry{rest, example().Entries} {
			if b, e := office.Add(api.Book{Entries: l}, x); e != api.OK || !sameBooks(b, example()) {
				t.Error(x.At, b, e)
			}
		}
	}
	if b, e := office.Add(api.Book{}, entryU); e != api.OK || !sameBooks(b, bookOf(entryU)) {
		t.Error(b, e)
	}
	if b, e := office.Add(long(199), sheet(at(7, 0), 5)); e != api.OK || len(b.Entries) != 200 {
		t.Error(len(b.Entries), e)
	}
	if b, e := office.Add(long(200), sheet(at(1, 7), 47)); e != api.OK || !sameBooks(b, long(200)) {
		t.Error(len(b.Entries), e)
	}
}

// other are entries that differ from X in one thing each.
func others() []api.Entry {
	return []api.Entry{
		with(entryX, "a"), sheet(at(0, 0), 6), says(api.EntNote, at(0, 0), 5, api.Place{}), {Kind: api.EntSheet, Hour: 5, Reader: 1},
		says(api.EntCorrect, at(0, 0), 5, at(0, 0)), says(api.EntCorrect, at(0, 0), 5, at(1, 0)),
	}
}

// P8.2: the errors of Add, in their order.
func TestAddErrors(t *testing.T) {
	bad := sheet(at(0, 0), -1)
	for _, c := range []struct {
		b    api.Book
		x    api.Entry
		want api.Errno
	}{
		{bookOf(bad), bad, api.ErrBook}, {long(201), entryX, api.ErrBook}, {long(201), bad, api.ErrBook},
		{example(), bad, api.ErrEntry}, {long(200), bad, api.ErrEntry},
		{long(200), sheet(at(0, 0), 1), api.ErrTwo}, {example(), with(entryU, ""), api.OK},
		{long(200), sheet(at(7, 0), 5), api.ErrLong}, {long(200), says(api.EntTrust, at(0, 40), 5, at(0, 0)), api.ErrLong},
	} {
		b, e := office.Add(c.b, c.x)
		if e != c.want || e != api.OK && len(b.Entries) != 0 {
			t.Error(len(c.b.Entries), c.x.At, len(b.Entries), e)
		}
	}
	for _, x := range others() {
		if b, e := office.Add(example(), x); e != api.ErrTwo || len(b.Entries) != 0 {
			t.Error(x, b, e)
		}
		if b, e := office.Join(example(), bookOf(x)); e != api.ErrTwo || len(b.Entries) != 0 {
			t.Error(x, b, e)
		}
	}
}

// P8.2: the errors of Join, in their order.
func TestJoinErrors(t *testing.T) {
	high := long(200)
	for i := range high.Entries {
		high.Entries[i].At.Seq += 100
	}
	unlike := bookOf(append(high.Entries[1:], sheet(at(0, 0), 1))...)
	for _, c := range []struct {
		a, b api.Book
		want api.Errno
	}{
		{long(201), long(201), api.ErrBook}, {long(201), example(), api.ErrBook}, {bookOf(entryX), bookOf(sheet(at(0, 0), -1)), api.ErrBook},
		{long(200), unlike, api.ErrTwo}, {long(200), high, api.ErrLong}, {long(1), high, api.ErrLong}, {long(0), high, api.OK}, {long(200), long(120), api.OK},
		{long(100), api.Book{Entries: high.Entries[:101]}, api.ErrLong}, {long(100), api.Book{Entries: high.Entries[:100]}, api.OK},
	} {
		for range 2 {
			b, e := office.Join(c.a, c.b)
			if e != c.want || e != api.OK && len(b.Entries) != 0 {
				t.Error(len(c.a.Entries), len(c.b.Entries), len(b.Entries), e)
			}
			c.a, c.b = c.b, c.a
		}
	}
	for _, bad := range badBooks() {
		for _, good := range []api.Book{{}, example(), long(200)} {
			if b, e := office.Join(bad, good); e != api.ErrBook || len(b.Entries) != 0 {
				t.Error(bad, e)
			}
			if b, e := office.Join(good, bad); e != api.ErrBook || len(b.Entries) != 0 {
				t.Error(bad, e)
			}
		}
	}
}

// someBooks are books of which some have unlike entries of one place, and most have not.
func someBooks(d *rand.Rand, n int) []api.Book {
	all := someEntries(d, 12)
	var l []api.Book
	for range n {
		b := bookOf(some(d, all)...)
		if d.IntN(6) == 0 && len(b.Entries) > 0 {
			b.Entries[d.IntN(len(b.Entries))].Reader ^= 1
		}
		l = append(l, b)
	}
	return l
}

// union is the book of the entries of both; it is not ok if unlike ones have one place.
func union(a, b api.Book) (api.Book, bool) {
	l := slices.Clone(a.Entries)
	for _, x := range b.Entries {
		i := slices.IndexFunc(l, func(y api.Entry) bool { return x.At == y.At })
		if i == -1 {
			l = append(l, x)
		} else if l[i] != x {
			return api.Book{}, false
		}
	}
	return bookOf(l...), true
}

// P8.6: Join is commutative, associative and idempotent, and Add is Join with a book of one entry.
func TestJoin(t *testing.T) {
	d := dice(4)
	two := 0
	for range 5000 {
		books := someBooks(d, 3)
		a, b, c := books[0], books[1], books[2]
		want, ok := union(a, b)
		ab, e := office.Join(a, b)
		if ok != (e == api.OK) || !ok && e != api.ErrTwo || !sameBooks(ab, want) {
			t.Fatal(a, b, ab, e)
		}
		if ba, f := office.Join(b, a); f != e || !sameBooks(ab, ba) {
			t.Fatal(a, b, ba, f)
		}
		if aa, e := office.Join(a, a); e != api.OK || !sameBooks(aa, a) {
			t.Fatal(a, aa, e)
		}
		if !ok {
			two++
			continue
		}
		if bc, e := office.Join(b, c); e == api.OK {
			one, e := office.Join(ab, c)
			other, f := office.Join(a, bc)
			if e != f || !sameBooks(one, other) {
				t.Fatal(a, b, c, one, other, e, f)
			}
		}
		for _, x := range c.Entries {
			one, e := office.Add(a, x)
			other, f := office.Join(a, bookOf(x))
			if e != f || !sameBooks(one, other) {
				t.Fatal(a, x, one, other, e, f)
			}
		}
	}
	if two < 100 || two > 4000 {
		t.Error(two)
	}
}

// P8.2: the number that comes behind all of an office.
func TestNext(t *testing.T) {
	b := bookOf(append(example().Entries, sheet(at(7, 9999), 1), sheet(at(5, 3), 1), sheet(at(5, 1), 2))...)
	for n, want := range []int{2, 3, 1, 0, 0, 4, 0, 10000, -1} {
		if got := office.Next(b, n); got != want {
			t.Error(n, got)
		}
	}
	for _, n := range []int{-1, 8, math.MinInt, math.MaxInt} {
		if got := office.Next(b, n); got != -1 {
			t.Error(n, got)
		}
	}
	for n := range 8 {
		if got := office.Next(api.Book{}, n); got != 0 {
			t.Error(n, got)
		}
		for _, bad := range badBooks() {
			if got := office.Next(bad, n); got != -1 {
				t.Error(bad, n, got)
			}
		}
	}
}

// P8.2: the chapter's example, and others.
func TestHoles(t *testing.T) {
	for _, c := range []struct{ has, want []api.Place }{
		{nil, nil},
		{[]api.Place{at(0, 2), at(1, 0)}, []api.Place{at(0, 0), at(0, 1)}},
		{[]api.Place{at(0, 0), at(0, 1)}, nil},
		{[]api.Place{at(1, 0), at(2, 1)}, []api.Place{at(2, 0)}},
		{[]api.Place{at(0, 1), at(0, 3), at(7, 2)}, []api.Place{at(0, 0), at(0, 2), at(7, 0), at(7, 1)}},
		{[]api.Place{at(3, 0), at(3, 4), at(3, 5), at(4, 1)}, []api.Place{at(3, 1), at(3, 2), at(3, 3), at(4, 0)}},
	} {
		var b api.Book
		for _, p := range c.has {
			b.Entries = append(b.Entries, sheet(p, 5))
		}
		if l := office.Holes(b); !slices.Equal(l, c.want) {
			t.Error(c.has, l)
		}
	}
	var b api.Book
	for n := range 8 {
		b.Entries = append(b.Entries, sheet(at(n, 9999), 5))
	}
	l := office.Holes(b)
	if len(l) != 8*9999 || l[0] != at(0, 0) || l[9998] != at(0, 9998) || l[9999] != at(1, 0) || l[79991] != at(7, 9998) {
		t.Error(len(l))
	}
	for _, bad := range badBooks() {
		if l := office.Holes(bad); len(l) != 0 {
			t.Error(bad, l)
		}
	}
}

// P8.2: holes and next numbers of books of any entries.
func TestPlaces(t *testing.T) {
	d := dice(5)
	for range 3000 {
		b := bookOf(someEntries(d, 8)...)
		has := func(p api.Place) bool {
			return slices.ContainsFunc(b.Entries, func(x api.Entry) bool { return x.At == p })
		}
		var holes []api.Place
		for n := range 8 {
			next := 0
			for seq := range 5 {
				if has(at(n, seq)) {
					next = seq + 1
				}
			}
			if got := office.Next(b, n); got != next {
				t.Fatal(b, n, got)
			}
			for seq := range next {
				if !has(at(n, seq)) {
					holes = append(holes, at(n, seq))
				}
			}
		}
		if got := office.Holes(b); !slices.Equal(got, holes) {
			t.Fatal(b, got, holes)
		}
	}
}

package office

import (
	"slices"

	"gyttja/api"
)

// CheckBook reports whether a book is valid.
func CheckBook(b api.Book) api.Errno {
	if len(b.Entries) > api.MaxEntries {
		return api.ErrBook
	}
	for i, x := range b.Entries {
		if CheckEntry(x) != api.OK || i > 0 && comparePlaces(b.Entries[i-1].At, x.At) >= 0 {
			return api.ErrBook
		}
	}
	return api.OK
}

func sameBooks(a, b api.Book) bool { return slices.Equal(a.Entries, b.Entries) }

// joined returns the entries of all lists, each once, by their places; it is not ok if unlike ones have one place.
func joined(lists ...[]api.Entry) (l []api.Entry, ok bool) {
	l = slices.Concat(lists...)
	slices.SortFunc(l, func(x, y api.Entry) int { return comparePlaces(x.At, y.At) })
	l = slices.Compact(l)
	for i := range l {
		if i > 0 && l[i-1].At == l[i].At {
			return nil, false
		}
	}
	return l, true
}

// Add returns a book with an entry.
func Add(b api.Book, x api.Entry) (api.Book, api.Errno) {
	if e := CheckBook(b); e != api.OK {
		return api.Book{}, e
	}
	if e := CheckEntry(x); e != api.OK {
		return api.Book{}, e
	}
	return Join(b, api.Book{Entries: []api.Entry{x}})
}

// Join returns the book of the entries of both.
func Join(a, b api.Book) (api.Book, api.Errno) {
	if CheckBook(a) != api.OK || CheckBook(b) != api.OK {
		return api.Book{}, api.ErrBook
	}
	l, ok := joined(a.Entries, b.Entries)
	if !ok {
		return api.Book{}, api.ErrTwo
	}
	if len(l) > api.MaxEntries {
		return api.Book{}, api.ErrLong
	}
	return api.Book{Entries: l}, api.OK
}

// Next is the Seq of an office's next entry.
func Next(b api.Book, office int) int {
	if CheckBook(b) != api.OK || !isOffice(office) {
		return none
	}
	next := 0
	for _, x := range b.Entries {
		if x.At.Office == office {
			next = x.At.Seq + 1
		}
	}
	return next
}

// Holes returns the places that are missing ahead of an office's last entry.
func Holes(b api.Book) []api.Place {
	if CheckBook(b) != api.OK {
		return nil
	}
	var holes []api.Place
	var next api.Place
	for _, x := range b.Entries {
		if x.At.Office != next.Office {
			next = api.Place{Office: x.At.Office}
		}
		for ; next != x.At; next.Seq++ {
			holes = append(holes, next)
		}
		next.Seq++
	}
	return holes
}

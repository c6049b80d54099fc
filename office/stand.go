package office

import (
	"cmp"
	"slices"

	"gyttja/api"
)

// view is a book as known at an hour.
type view struct {
	book api.Book
	hour int
}

func (v view) isKnown(x api.Entry) bool { return x.Hour <= v.hour }

// compareTimes tells which of two entries is later.
func compareTimes(x, y api.Entry) int {
	return cmp.Or(cmp.Compare(x.Hour, y.Hour), comparePlaces(x.At, y.At))
}

// said returns the known entries of some kinds that say something of an entry.
func (v view) said(of api.Entry, kinds ...int) []api.Entry {
	return filtered(v.book.Entries, func(x api.Entry) bool {
		return x.Of == of.At && slices.Contains(kinds, x.Kind) && v.isKnown(x) && compareTimes(x, of) > 0
	})
}

func (v view) isWithdrawn(x api.Entry) bool { return len(v.said(x, api.EntWithdraw)) > 0 }

func (v view) isDoubted(x api.Entry) bool {
	l := v.said(x, api.EntDoubt, api.EntTrust)
	return len(l) > 0 && slices.MaxFunc(l, compareTimes).Kind == api.EntDoubt
}

// heir is the entry that stands in the place of a base entry, if that stands. Each correction is later than what it corrects, so there is a last one.
func (v view) heir(x api.Entry) api.Entry {
	for {
		l := filtered(v.said(x, api.EntCorrect), func(y api.Entry) bool { return !v.isWithdrawn(y) })
		if len(l) == 0 {
			return x
		}
		x = slices.MaxFunc(l, compareTimes)
	}
}

// stands reports whether an entry is a base entry that stands.
func (v view) stands(x api.Entry) bool {
	return isBase(x) && v.isKnown(x) && !v.isWithdrawn(x) && !v.isDoubted(v.heir(x))
}

// heirs returns the places of the heirs of all base entries that stand, rising.
func (v view) heirs() []api.Place {
	var l []api.Place
	for _, x := range filtered(v.book.Entries, v.stands) {
		l = append(l, v.heir(x).At)
	}
	slices.SortFunc(l, comparePlaces)
	return l
}

// Standing returns the entries that stand, as known at an hour.
func Standing(b api.Book, known int) []int {
	if CheckBook(b) != api.OK {
		return nil
	}
	v := view{b, known}
	var l []int
	for i, x := range b.Entries {
		if v.stands(x) {
			l = append(l, i)
		}
	}
	return l
}

// Heir returns the entry that stands in the place of another one.
func Heir(b api.Book, at api.Place, known int) (api.Place, api.Errno) {
	if e := CheckBook(b); e != api.OK {
		return api.Place{}, e
	}
	v := view{b, known}
	i := slices.IndexFunc(b.Entries, func(x api.Entry) bool { return x.At == at && isBase(x) && v.isKnown(x) })
	if i == none {
		return api.Place{}, api.ErrEntry
	}
	x := b.Entries[i]
	if !v.stands(x) {
		return api.Place{}, api.ErrNone
	}
	return v.heir(x).At, api.OK
}

// Changes returns the places that stand at one hour and not at another one.
func Changes(b api.Book, before, after int) (came, went []api.Place) {
	if CheckBook(b) != api.OK {
		return nil, nil
	}
	earlier, later := view{b, before}.heirs(), view{b, after}.heirs()
	return without(later, earlier), without(earlier, later)
}

// without returns the places that are not among others.
func without(l, others []api.Place) []api.Place {
	return filtered(l, func(p api.Place) bool { return !slices.Contains(others, p) })
}

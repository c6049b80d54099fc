package lay

import (
	"cmp"
	"maps"
	"slices"

	"gyttja/api"
)

// starts has, for each year of Y's first layer (from -MaxPiece on), the years that an operation may be. Years are those of offsets: X's first layer has the year 0.
type starts [2*api.MaxPiece + 1]moments

// following is, for each knot, the starts of the operations that follow it.
func (w web) following() []starts {
	list := make([]starts, len(w.Knots))
	for at, k := range w.Knots {
		if k.I == 0 || k.J == 0 {
			// As long as only one piece has begun, each operation uses one layer: the next one may begin the other piece.
			list[at] = starts{}
			list[at][api.MaxPiece+k.I-k.J] = moment(k.I)
		}
		for t := range w.from(at) {
			for top, years := range list[at] {
				list[t.To][top] |= years << 1
			}
		}
	}
	return list
}

// isFirstEnd reports whether a thread uses the last layer of a piece, and the other piece had layers left.
func (w web) isFirstEnd(t api.Thread) bool {
	from, to := w.Knots[t.From], w.Knots[t.To]
	return from.I < w.n && from.J < w.m && (to.I == w.n || to.J == w.m)
}

func compareOffsets(o, p api.Offset) int {
	return cmp.Or(cmp.Compare(o.XEnd, p.XEnd), cmp.Compare(o.YTop, p.YTop), cmp.Compare(o.YEnd, p.YEnd))
}

// Offsets returns the offsets of all joins, rising, each once.
func Offsets(w api.Weave) ([]api.Offset, api.Errno) {
	o, e := open(w)
	if e != api.OK {
		return nil, e
	}
	found := map[api.Offset]bool{}
	following := o.following()
	for _, t := range o.Threads {
		if !o.isFirstEnd(t) {
			continue
		}
		// From here on each operation uses one layer, of the piece that has layers left.
		moreX, moreY := o.n-o.Knots[t.To].I, o.m-o.Knots[t.To].J
		for top, years := range following[t.From] {
			for year := range mostYears {
				if years.has(year) {
					found[api.Offset{XEnd: year + moreX, YTop: top - api.MaxPiece, YEnd: year + moreY}] = true
				}
			}
		}
	}
	return slices.SortedFunc(maps.Keys(found), compareOffsets), api.OK
}

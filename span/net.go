package span

import (
	"slices"

	"gyttja/api"
)

// mostOfNet is the greatest number of a net, either way, but for Far.
const mostOfNet = 40000000

// draft is a net under way: its numbers are lowered in place.
type draft struct{ api.Net }

// newDraft has no bounds yet between marks that rise.
func newDraft(marks []int) draft {
	most := make([][]int, len(marks))
	for i := range len(marks) {
		most[i] = slices.Repeat([]int{api.Far}, len(marks))
		most[i][i] = 0
	}
	return draft{api.Net{Marks: marks, Most: most}}
}

// far reports whether there is no bound.
func (d draft) far(i, j int) bool { return d.Most[i][j] == api.Far }

func (d draft) lower(i, j, most int) { d.Most[i][j] = min(d.Most[i][j], most) }

// through lowers the numbers to what leads over the mark at k.
func (d draft) through(k int) {
	onward := d.Most[k]
	for _, most := range d.Most {
		if most[k] == api.Far {
			continue
		}
		for j := range len(d.Marks) {
			if onward[j] != api.Far {
				most[j] = min(most[j], most[k]+onward[j])
			}
		}
	}
}

// Close returns the closure of claims.
func Close(l []api.Claim) (api.Net, api.Errno) {
	if e := Check(l); e != api.OK {
		return api.Net{}, e
	}
	d, ok := closure(graphOf(l, everyClaim))
	if !ok {
		return api.Net{}, api.ErrChronology
	}
	return d.Net, api.OK
}

// closure is not ok if there is no chronology: then numbers could be lowered without end.
func closure(g graph) (d draft, ok bool) {
	if g.contradicts() {
		return draft{}, false
	}
	d = newDraft(g.marks)
	for _, m := range g.moves {
		d.lower(m.from, m.to, m.most)
	}
	for k := range len(d.Marks) {
		d.through(k)
	}
	return d, true
}

// CheckNet reports whether a net is closed.
func CheckNet(n api.Net) api.Errno {
	d := draft{n}
	if !d.hasForm() || !d.inRange() || !d.isClosed() {
		return api.ErrNet
	}
	return api.OK
}

// hasForm reports whether the marks are right, and there is a number for each two of them.
func (d draft) hasForm() bool {
	if len(d.Marks) > api.MaxNet || len(d.Most) != len(d.Marks) {
		return false
	}
	last := none
	for i := range len(d.Marks) {
		if !within(d.Marks[i], last+1, api.MaxMark) || len(d.Most[i]) != len(d.Marks) {
			return false
		}
		last = d.Marks[i]
	}
	return true
}

// inRange reports whether all numbers are in the limits of a net.
func (d draft) inRange() bool {
	for i := range len(d.Marks) {
		for j := range len(d.Marks) {
			if !d.far(i, j) && !within(d.Most[i][j], -mostOfNet, mostOfNet) {
				return false
			}
		}
	}
	return true
}

// isClosed reports whether no number can be lowered.
func (d draft) isClosed() bool {
	for i := range len(d.Marks) {
		if d.Most[i][i] != 0 {
			return false
		}
		for j := range len(d.Marks) {
			if !d.far(i, j) && !d.isClosedOver(i, j) {
				return false
			}
		}
	}
	return true
}

// isClosedOver reports whether no way from the mark at i that goes on from that at j is shorter than the number for it.
func (d draft) isClosedOver(i, j int) bool {
	for k := range len(d.Marks) {
		if !d.far(j, k) && d.Most[i][k] > d.Most[i][j]+d.Most[j][k] {
			return false
		}
	}
	return true
}

// Grow returns the closure with one more claim.
func Grow(n api.Net, c api.Claim) (api.Net, api.Errno) {
	if e := CheckNet(n); e != api.OK {
		return api.Net{}, e
	}
	if e := CheckClaim(c); e != api.OK {
		return api.Net{}, e
	}
	d := widened(n, c.A, c.B)
	if len(d.Marks) > api.MaxNet {
		return api.Net{}, api.ErrLong
	}
	a, b := place(d.Marks, c.A), place(d.Marks, c.B)
	if d.Most[a][b] < c.Lo || d.Most[b][a] < -c.Hi {
		return api.Net{}, api.ErrChronology
	}
	d.lower(a, b, c.Hi)
	d.lower(b, a, -c.Lo)
	d.through(a)
	d.through(b)
	if !d.inRange() {
		return api.Net{}, api.ErrLong
	}
	return d.Net, api.OK
}

// widened returns a copy of a net that has further marks, too.
func widened(n api.Net, further ...int) draft {
	d := newDraft(rising(slices.Concat(n.Marks, further)))
	for i := range len(n.Marks) {
		for j := range len(n.Marks) {
			d.Most[place(d.Marks, n.Marks[i])][place(d.Marks, n.Marks[j])] = n.Most[i][j]
		}
	}
	return d
}

package desk

import (
	"strings"

	"gyttja/api"
	"gyttja/cases"
	"gyttja/lines"
	"gyttja/plan"
	"gyttja/proof"
	"gyttja/years"
)

// mostProven is how many cases a world may have of which a proof is told.
const mostProven = 60

// listed returns a line for each element of a list, or the line that tells that there are none.
func listed[T any](l []T, line func(i int, x T) string) []string {
	if len(l) == 0 {
		return []string{"none"}
	}
	var told []string
	for i, x := range l {
		told = append(told, line(i, x))
	}
	return told
}

// known is what is known at the office of a query.
func (t task) known() api.Known { return Know(t.room.Book, t.Hour) }

func (t task) world() api.World { return t.known().World }

// event is the event with an Id.
func event(k api.Known, id int) api.Event {
	i := indexOf(k.Events, id)
	if i < 0 {
		refuse(api.ErrNone)
	}
	return k.Events[i]
}

func runLine(_ int, r api.Run) string { return row(r.Lo, r.Hi) }

func (t task) bounds() []string {
	lo, hi, e := cases.Bounds(t.world(), t.Args[0], t.Args[1])
	refuse(e)
	return []string{row(lo, hi)}
}

func (t task) values() []string {
	return listed(sure(cases.Values(t.world(), t.Args[0], t.Args[1])), runLine)
}

func (t task) when() []string {
	k := t.known()
	return listed(sure(years.When(k.World, event(k, t.Args[0]), t.Args[1])), runLine)
}

func (t task) order() []string {
	k := t.known()
	o := sure(years.Which(k.World, event(k, t.Args[0]), event(k, t.Args[1])))
	var words []string
	if o.Older {
		words = append(words, "older")
	}
	if o.Same {
		words = append(words, "same")
	}
	if o.Younger {
		words = append(words, "younger")
	}
	return []string{strings.Join(words, " ")}
}

func (t task) count() []string {
	k := t.known()
	least, most, e := years.Count(k.World, k.Events, t.Args[0], api.Run{Lo: t.Args[1], Hi: t.Args[2]})
	refuse(e)
	return []string{row(least, most)}
}

func (t task) prove() []string {
	w := t.world()
	leaves := 1
	for _, q := range w.Questions {
		leaves *= len(q.Choices)
	}
	if leaves > mostProven {
		refuse(api.ErrLong)
	}
	return lines.Of(sure(proof.Print(sure(proof.Prove(w, t.Args[0], t.Args[1])))))
}

// named writes the place of a source.
func named(by int) string {
	p, _ := PlaceOf(by)
	return strings.Join(digits(p.Office, p.Seq), ":")
}

func (t task) conflict() []string {
	sources, e := cases.Conflict(t.world())
	if e != api.OK { // what a book says is a valid world: it has no conflict
		return []string{"none"}
	}
	var names []string
	for _, by := range sources {
		names = append(names, named(by))
	}
	return []string{strings.Join(names, " ")}
}

func (t task) leaves() []string {
	return []string{row(len(sure(cases.Leaves(t.world()))))}
}

func (t task) left() []string {
	w := t.world()
	return listed(sure(cases.Left(w)), func(i int, choices []int) string {
		q := w.Questions[i]
		return named(q.By) + " of " + row(len(q.Choices)) + " : " + row(choices...)
	})
}

func (t task) void() []string {
	return listed(t.known().Void, func(_ int, v api.Void) string { return row(v.At.Office, v.At.Seq, int(v.Code)) })
}

func (t task) standing() []string {
	return listed(heirs(t.room.Book, t.Hour), func(_ int, h heir) string { return row(h.at.Office, h.at.Seq) })
}

func (t task) plan() []string {
	p := sure(plan.Best(t.world(), t.Pieces, api.Ask{A: t.Args[0], B: t.Args[1]}))
	return []string{row(p.Piece, p.Worst, p.Outcome)}
}

func (t task) since() []string {
	return []string{row(sure(Since(t.room.Book, t.Hour, t.Args[0], t.Args[1], t.Args[2])))}
}

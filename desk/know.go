package desk

import (
	"slices"

	"gyttja/api"
	"gyttja/cases"
	"gyttja/office"
	"gyttja/sheet"
)

// saying is what an entry says: what it adds to what is known, or why it adds nothing.
type saying struct {
	world api.World
	event []api.Event // one, if any
	e     api.Errno
}

// sayingOf returns what a text says that is read as that of a kind of entries.
func sayingOf(kind int, text string, by int) saying {
	s, _, e := attempt(func() saying { return readAs(kind, text, by) })
	s.e = e
	return s
}

// readAs reads a text as that of a kind of entries. It throws why that is refused.
func readAs(kind int, text string, by int) (s saying) {
	switch kind {
	case api.EntSheet:
		s.world.Claims = sure(SheetClaims(parsed(sheet.Parse(text)), by))
	case api.EntJoin:
		s.world.Questions = []api.Question{sure(JoinQuestion(parsed(ParseJoin(text)), by))}
	case api.EntAsh:
		s.world.Questions = []api.Question{sure(AshQuestion(parsed(ParseAsh(text)), by))}
	case api.EntEvent:
		s.event = []api.Event{parsed(ParseEvent(text))}
	case api.EntNote:
		if x, ok := ParseNote(text); ok {
			s.world.Claims = []api.Claim{claimOf(x, by)}
		}
	}
	return s
}

// scribe reads a valid book. It reads each text once, however many hours are asked for: an entry is the heir of at most one base entry, and so is always read as of the same kind.
type scribe struct {
	api.Book
	read map[api.Place]saying
}

func scribeOf(b api.Book) scribe { return scribe{b, map[api.Place]saying{}} }

// heard returns what a base entry says by the text of its heir.
func (s scribe) heard(h heir) saying {
	if says, ok := s.read[h.at]; ok {
		return says
	}
	i := slices.IndexFunc(s.Entries, func(x api.Entry) bool { return x.At == h.at })
	says := sayingOf(h.of.Kind, s.Entries[i].Text, Source(h.at))
	s.read[h.at] = says
	return says
}

// heir is the place of an entry that stands in the place of another one.
type heir struct {
	of api.Entry
	at api.Place
}

// heirs returns the heirs of all entries of a valid book that stand as known at an hour, in the order of the entries.
func heirs(b api.Book, hour int) []heir {
	var l []heir
	for _, i := range office.Standing(b, hour) {
		x := b.Entries[i]
		at, _ := office.Heir(b, x.At, hour)
		l = append(l, heir{x, at})
	}
	return l
}

// know returns what the book says, as known at an hour.
func (s scribe) know(hour int) api.Known {
	var k api.Known
	for _, h := range heirs(s.Book, hour) {
		if e := add(&k, s.heard(h)); e != api.OK {
			k.Void = append(k.Void, api.Void{At: h.at, Code: e})
		}
	}
	return k
}

// add adds to what is known what an entry says. With an error it adds nothing.
func add(k *api.Known, s saying) api.Errno {
	if s.e != api.OK {
		return s.e
	}
	for _, v := range s.event {
		if indexOf(k.Events, v.Id) >= 0 {
			return api.ErrTwo
		}
	}
	w := api.World{
		Claims:    slices.Concat(k.World.Claims, s.world.Claims),
		Questions: slices.Concat(k.World.Questions, s.world.Questions),
	}
	if e := cases.Check(w); e != api.OK {
		return e
	}
	k.World = w
	k.Events = append(k.Events, s.event...)
	return api.OK
}

// indexOf is the index of the event with an Id; below 0 if there is none.
func indexOf(l []api.Event, id int) int {
	return slices.IndexFunc(l, func(v api.Event) bool { return v.Id == id })
}

// Know returns what a book says, as known at an hour.
func Know(b api.Book, known int) api.Known {
	if office.CheckBook(b) != api.OK {
		return api.Known{}
	}
	return scribeOf(b).know(known)
}

// hoursUpTo returns the hours of the entries of a book up to one, the last one first, each once: what is known changes at these alone.
func hoursUpTo(b api.Book, known int) []int {
	var hours []int
	for _, x := range b.Entries {
		if x.Hour <= known {
			hours = append(hours, x.Hour)
		}
	}
	slices.Sort(hours)
	hours = slices.Compact(hours)
	slices.Reverse(hours)
	return hours
}

// Since returns the hour since when a bound is known.
func Since(b api.Book, known, x, y, most int) (int, api.Errno) {
	if e := office.CheckBook(b); e != api.OK {
		return 0, e
	}
	if !within(known, 0, api.MaxHour) {
		return 0, api.ErrArg
	}
	s := scribeOf(b)
	since, e := 0, api.ErrNone
	for _, hour := range hoursUpTo(b, known) {
		_, greatest, unknown := cases.Bounds(s.know(hour).World, x, y)
		if unknown != api.OK || greatest > most {
			break
		}
		since, e = hour, api.OK
	}
	return since, e
}

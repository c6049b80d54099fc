package desk_test

import (
	"slices"
	"strconv"
	"strings"
	"testing"

	"gyttja/api"
	"gyttja/cases"
	"gyttja/desk"
	"gyttja/sheet"
)

// P10.2: each kind of entries adds what it says, with the source of its place, in the order of the entries.
func TestKnow(t *testing.T) {
	b := bookOf(
		base(0, 0, api.EntSheet, sheetText), base(0, 3, api.EntJoin, openText), base(1, 0, api.EntNote, noteText), base(1, 1, api.EntNote, "a note"),
		base(1, 2, api.EntEvent, eventText), base(2, 0, api.EntEvent, "event 8 0 66 -3 5"), base(2, 1, api.EntAsh, "ash 1 2 1 9 1 9 1 9\nash 2 65 3 4 3 4 3 4"), base(7, 9999, api.EntSheet, "sheet 9 reader 9 core 3\nmark 7\n"))
	k := desk.Know(b, 5)
	want := api.Known{
		World: api.World{
			Claims: []api.Claim{claim(1, 2, 2, 3, 1), claim(0, 1, 100, 110, 10001)},
			Questions: []api.Question{
				{By: 4, Choices: [][]api.Claim{{claim(1, 2, 2, 2, 4), claim(1, 65, 0, 0, 4), claim(1, 66, 2, 2, 4)}, {claim(1, 2, 4, 4, 4), claim(1, 65, 2, 2, 4), claim(1, 66, 4, 4, 4)}}},
				{By: 20002, Choices: [][]api.Claim{{claim(2, 65, 0, 0, 20002)}, nil}},
			},
		},
		Events: []api.Event{{Id: 7, Kind: 1, Mark: 2, Lo: 0, Hi: 1}, {Id: 8, Mark: 66, Lo: -3, Hi: 5}},
	}
	if tell(k) != tell(want) {
		t.Errorf("%v", k)
	}
	for _, hour := range []int{-1, 0, 4} {
		if k := desk.Know(b, hour); tell(k) != tell(api.Known{}) {
			t.Error(hour, k)
		}
	}
	for _, hour := range []int{6, 100000, 100001} {
		if k := desk.Know(b, hour); tell(k) != tell(want) {
			t.Error(hour, k)
		}
	}
}

// codes tells the void entries of a book: the place of each, and why.
func codes(k api.Known) string {
	var l []string
	for _, v := range k.Void {
		l = append(l, strconv.Itoa(v.At.Office)+":"+strconv.Itoa(v.At.Seq)+"="+strconv.Itoa(int(v.Code)))
	}
	return strings.Join(l, " ")
}

// manyMarks is a sheet of a core with so many marks, from the first one on.
func manyMarks(core, marks int) string {
	text := "sheet 1 reader 1 core " + strconv.Itoa(core) + "\n"
	for i := range marks {
		text += "mark " + strconv.Itoa(i) + "\nyear 5\n"
	}
	return text
}

// P10.2: an entry whose text is refused, or whose question has an error, is void, and adds nothing.
func TestVoid(t *testing.T) {
	for _, c := range []struct {
		kind int
		text string
		code api.Errno // OK, if it is not void
	}{
		{api.EntSheet, "", api.ErrText}, {api.EntSheet, "sheets", api.ErrText}, {api.EntSheet, "sheet 1 reader 2 core 3\nyear 0", api.ErrRow}, {api.EntSheet, "sheet 0 reader 2 core 3", api.ErrSheet}, {api.EntSheet, "sheet 1 reader 2 core 3\nmark 4\nmark 3", api.ErrOrder}, {api.EntSheet, "sheet 1 reader 2 core 3", api.OK}, {api.EntSheet, noteText, api.ErrText},
		{api.EntJoin, "", api.ErrSay}, {api.EntJoin, ashText, api.ErrSay}, {api.EntJoin, "join 0 0 0\nx 1 2 5\ny 65 66 5", api.ErrRule}, {api.EntJoin, "join 0 0 1\nx 1 2 5\ny 65 66 0", api.ErrPiece}, {api.EntJoin, "join 0 0 1\nx 1 2 5\ny 3 4 5", api.ErrMark}, {api.EntJoin, "join 0 0 1\nx 1 2 5\ny 65 66 6", api.ErrNone}, {api.EntJoin, "join 0 6 1\nx 1 2" + strings.Repeat(" 5", 24) + "\ny 65 66" + strings.Repeat(" 5", 24), api.ErrLong},
		{api.EntAsh, "ash", api.ErrSay}, {api.EntAsh, "ash 1 0 1 1 1 1 1 1", api.ErrAsh}, {api.EntAsh, "same 1 2", api.ErrTie}, {api.EntAsh, "ash 1 1 1 1 1 1 1 1\nash 2 2 1 1 1 1 1 1\nsame 1 2", api.ErrNone}, {api.EntAsh, first(desk.PrintAsh(ashes(6))), api.ErrLong}, {api.EntAsh, first(desk.PrintAsh(ashes(9))), api.ErrLong}, {api.EntAsh, "", api.OK},
		{api.EntEvent, "", api.ErrSay}, {api.EntEvent, "event 7 1 2 0", api.ErrSay}, {api.EntEvent, "event 7 1 2 1 0", api.ErrEvent}, {api.EntEvent, "event 7 1 2 0 1", api.ErrTwo}, {api.EntEvent, "event 7 99 0 -5 -5", api.ErrTwo}, {api.EntEvent, "event 7 1 2 1 0", api.ErrEvent}, {api.EntEvent, "event 8 1 2000 0 1", api.OK},
		{api.EntNote, "", api.OK}, {api.EntNote, "dated 0 1 1", api.OK}, {api.EntNote, sheetText, api.OK},
	} {
		b := bookOf(base(0, 0, api.EntSheet, sheetText), base(0, 1, api.EntEvent, eventText), base(1, 5, c.kind, c.text), base(2, 0, api.EntNote, noteText))
		k, without := desk.Know(b, 5), desk.Know(bookOf(b.Entries[0], b.Entries[1], b.Entries[3]), 5)
		if c.code == api.OK {
			if len(k.Void) > 0 {
				t.Error(c, k)
			}
			continue
		}
		if tell(k.Void) != tell([]api.Void{{At: place(1, 5), Code: c.code}}) || tell(k.World) != tell(without.World) || tell(k.Events) != tell(without.Events) {
			t.Error(c, k)
		}
	}
}

// P10.2: an entry with which the world would not be valid is void; those behind it may still be added.
func TestFullWorlds(t *testing.T) {
	note := func(office, seq, mark int) api.Entry {
		return base(office, seq, api.EntNote, "dated "+strconv.Itoa(mark)+" 1 2")
	}
	// 63 marks and the datum are all that a world may have.
	k := desk.Know(bookOf(base(0, 0, api.EntSheet, manyMarks(0, 63)), note(1, 0, 1), note(1, 1, 64), base(1, 2, api.EntSheet, manyMarks(1, 2)), note(1, 3, 63)), 5)
	if codes(k) != "1:1=2 1:2=2" || len(k.World.Claims) != 64 || k.World.Claims[63].By != 10004 {
		t.Error(codes(k), k)
	}
	// At most 400 claims: 6 sheets with 63 each, and 22 notes.
	var l []api.Entry
	for i := range 7 {
		l = append(l, base(0, i, api.EntSheet, manyMarks(0, 64)))
	}
	l = append(l, base(1, 0, api.EntSheet, manyMarks(0, 23)), base(1, 1, api.EntSheet, manyMarks(0, 2)), base(1, 2, api.EntJoin, joinText), base(1, 3, api.EntSheet, manyMarks(0, 1)), base(1, 4, api.EntSheet, "sheet"))
	if k := desk.Know(bookOf(l...), 5); codes(k) != "0:6=2 1:1=2 1:2=2 1:4=12" || len(k.World.Claims) != 400 {
		t.Error(codes(k), len(k.World.Claims))
	}
	// At most 6 questions, and at most 3000 leaves.
	l = nil
	for i := range 8 {
		l = append(l, base(0, i, api.EntJoin, openText))
	}
	if k := desk.Know(bookOf(l...), 5); codes(k) != "0:6=2 0:7=2" || len(k.World.Questions) != 6 {
		t.Error(codes(k))
	}
	open := first(desk.PrintAsh(ashes(5)))
	l = []api.Entry{base(0, 0, api.EntAsh, open), base(0, 1, api.EntAsh, open), base(0, 2, api.EntJoin, openText), base(0, 3, api.EntAsh, ""), base(0, 4, api.EntJoin, joinText)}
	if k := desk.Know(bookOf(l...), 5); codes(k) != "0:2=2" || len(k.World.Questions) != 4 {
		t.Error(codes(k))
	}
	// Events add nothing to the world, and there may be more of them than years.Count takes.
	l = nil
	for i := range 20 {
		l = append(l, base(0, i, api.EntEvent, "event "+strconv.Itoa(20-i)+" 0 5 0 0"))
	}
	if k := desk.Know(bookOf(l...), 5); codes(k) != "" || len(k.Events) != 20 || k.Events[0].Id != 20 {
		t.Error(k)
	}
}

// P10.2: the text of the heir is read as that of the entry's own kind, with the heir's source, at the entry's place in the order.
func TestHeirs(t *testing.T) {
	b := bookOf(
		base(0, 0, api.EntSheet, sheetText), base(0, 1, api.EntNote, noteText), base(0, 2, api.EntEvent, eventText),
		later(1, 0, api.EntCorrect, 7, place(0, 0), "sheet 1 reader 1 core 0\nmark 0\nslump 9\nmark 1"),
		later(1, 1, api.EntCorrect, 8, place(1, 0), noteText),
		later(1, 2, api.EntCorrect, 8, place(0, 1), sheetText),
		later(1, 3, api.EntCorrect, 8, place(0, 2), "event 8 1 2 0 1"),
		later(1, 4, api.EntWithdraw, 9, place(1, 1), ""),
		later(2, 0, api.EntDoubt, 10, place(0, 2), ""), later(2, 1, api.EntDoubt, 11, place(1, 3), ""), later(2, 2, api.EntTrust, 12, place(1, 3), ""),
		later(2, 3, api.EntWithdraw, 13, place(0, 0), ""),
	)
	event := api.Event{Id: 7, Kind: 1, Mark: 2, Lo: 0, Hi: 1}
	other := event
	other.Id = 8
	for hour, want := range map[int]api.Known{
		4:  {},
		6:  {World: api.World{Claims: []api.Claim{claim(1, 2, 2, 3, 1), claim(0, 1, 100, 110, 2)}}, Events: []api.Event{event}},
		7:  {World: api.World{Claims: []api.Claim{claim(1, 2, 0, 9, 10001), claim(0, 1, 100, 110, 2)}}, Events: []api.Event{event}},
		8:  {Events: []api.Event{other}, Void: []api.Void{{At: place(1, 1), Code: api.ErrText}}},
		9:  {World: api.World{Claims: []api.Claim{claim(1, 2, 0, 9, 10001)}}, Events: []api.Event{other}},
		10: {World: api.World{Claims: []api.Claim{claim(1, 2, 0, 9, 10001)}}, Events: []api.Event{other}},
		11: {World: api.World{Claims: []api.Claim{claim(1, 2, 0, 9, 10001)}}},
		12: {World: api.World{Claims: []api.Claim{claim(1, 2, 0, 9, 10001)}}, Events: []api.Event{other}},
		13: {Events: []api.Event{other}},
	} {
		if k := desk.Know(b, hour); tell(k) != tell(want) {
			t.Error(hour, k)
		}
	}
}

// isLater is the chapter's word of entries.
func isLater(x, y api.Entry) bool {
	return x.Hour > y.Hour || x.Hour == y.Hour && desk.Source(x.At) > desk.Source(y.At)
}

// latest is the latest known entry of some kinds that says something of another one, and whether there is one.
func latest(b api.Book, hour int, of api.Entry, may func(api.Entry) bool, kinds ...int) (found api.Entry, is bool) {
	for _, x := range b.Entries {
		if x.Hour <= hour && x.Of == of.At && slices.Contains(kinds, x.Kind) && isLater(x, of) && may(x) && (!is || isLater(x, found)) {
			found, is = x, true
		}
	}
	return found, is
}

// naiveHeir follows chapter 8: the heir of a base entry, and whether the entry stands.
func naiveHeir(b api.Book, hour int, x api.Entry) (heir api.Entry, stands bool) {
	all := func(api.Entry) bool { return true }
	withdrawn := func(y api.Entry) bool {
		_, is := latest(b, hour, y, all, api.EntWithdraw)
		return is
	}
	heir = x
	for {
		next, is := latest(b, hour, heir, func(y api.Entry) bool { return !withdrawn(y) }, api.EntCorrect)
		if !is {
			break
		}
		heir = next
	}
	last, said := latest(b, hour, heir, all, api.EntDoubt, api.EntTrust)
	return heir, x.Hour <= hour && !withdrawn(x) && !(said && last.Kind == api.EntDoubt)
}

// naiveKnow follows the chapter's text.
func naiveKnow(b api.Book, hour int) api.Known {
	var k api.Known
	for _, x := range b.Entries {
		heir, stands := naiveHeir(b, hour, x)
		if x.Kind > api.EntNote || !stands {
			continue
		}
		by := desk.Source(heir.At)
		w := api.World{Claims: slices.Clone(k.World.Claims), Questions: slices.Clone(k.World.Questions)}
		var added []api.Event
		var e api.Errno
		switch x.Kind {
		case api.EntSheet:
			var s api.Sheet
			if s, _, e = sheet.Parse(heir.Text); e == api.OK {
				w.Claims = append(w.Claims, first(desk.SheetClaims(s, by))...)
			}
		case api.EntJoin:
			var j api.Beside
			var q api.Question
			if j, _, e = desk.ParseJoin(heir.Text); e == api.OK {
				q, e = desk.JoinQuestion(j, by)
			}
			w.Questions = append(w.Questions, q)
		case api.EntAsh:
			var f api.Falls
			var q api.Question
			if f, _, e = desk.ParseAsh(heir.Text); e == api.OK {
				q, e = desk.AshQuestion(f, by)
			}
			w.Questions = append(w.Questions, q)
		case api.EntEvent:
			var v api.Event
			v, _, e = desk.ParseEvent(heir.Text)
			if e == api.OK && slices.ContainsFunc(k.Events, func(u api.Event) bool { return u.Id == v.Id }) {
				e = api.ErrTwo
			}
			added = []api.Event{v}
		case api.EntNote:
			if s, tells := desk.ParseNote(heir.Text); tells {
				w.Claims = append(w.Claims, claim(0, s.B, s.Lo, s.Hi, by))
			}
		}
		if e == api.OK {
			e = cases.Check(w)
		}
		if e != api.OK {
			k.Void = append(k.Void, api.Void{At: heir.At, Code: e})
			continue
		}
		k.World, k.Events = w, append(k.Events, added...)
	}
	return k
}

// P10.2, P6: whatever a book has, it says what the chapter's text tells, at each hour.
func TestSomeBooks(t *testing.T) {
	d := dice(5)
	voids, heirs := 0, 0
	for range 500 {
		b := someBook(d, d.IntN(25))
		for hour := -1; hour < 11; hour++ {
			k, want := desk.Know(b, hour), naiveKnow(b, hour)
			if tell(k) != tell(want) {
				t.Fatalf("%v at %d: %v, not %v", b, hour, k, want)
			}
			voids += len(k.Void)
			for _, c := range k.World.Claims {
				p, _ := desk.PlaceOf(c.By)
				if slices.ContainsFunc(b.Entries, func(x api.Entry) bool { return x.At == p && x.Kind == api.EntCorrect }) {
					heirs++
				}
			}
		}
	}
	if voids < 1000 || heirs < 200 {
		t.Error(voids, heirs)
	}
}

// badBooks are not valid.
func badBooks() []api.Book {
	x := base(0, 0, api.EntNote, noteText)
	odd := x
	odd.Reader = 100
	var many []api.Entry
	for i := range 201 {
		many = append(many, base(0, i, api.EntNote, noteText))
	}
	return []api.Book{{Entries: []api.Entry{x, x}}, {Entries: []api.Entry{base(1, 0, api.EntNote, noteText), x}}, {Entries: []api.Entry{odd}}, {Entries: []api.Entry{{At: place(0, 0), Kind: 10, Hour: 5}}}, {Entries: many}}
}

// P10.2: a book that is not valid says nothing.
func TestBadBooks(t *testing.T) {
	for _, b := range badBooks() {
		if k := desk.Know(b, 5); tell(k) != tell(api.Known{}) {
			t.Error(k)
		}
	}
	full := api.Book{Entries: badBooks()[4].Entries[:200]}
	if k := desk.Know(full, 5); len(k.World.Claims) != 200 {
		t.Error(len(k.World.Claims))
	}
}

// P10.2, R1: the errors of Since, in their order.
func TestErrorsOfSince(t *testing.T) {
	good := bookOf(base(0, 0, api.EntSheet, sheetText))
	for _, b := range badBooks() {
		for _, known := range []int{5, -1} {
			if hour, e := desk.Since(b, known, 1, 2, 3); hour != 0 || e != api.ErrBook {
				t.Error(hour, e)
			}
		}
	}
	for _, c := range []struct {
		known, x, y, most, hour int
		e                       api.Errno
	}{
		{-1, 1, 2, 3, 0, api.ErrArg}, {100001, 1, 2, 3, 0, api.ErrArg}, {-1, 1, 9, 3, 0, api.ErrArg},
		{4, 1, 2, 3, 0, api.ErrNone}, {0, 1, 2, 3, 0, api.ErrNone}, {5, 1, 2, 2, 0, api.ErrNone}, {5, 1, 9, far, 0, api.ErrNone}, {5, -1, 2, 3, 0, api.ErrNone}, {5, 0, 2, far, 0, api.ErrNone},
		{5, 1, 2, 3, 5, api.OK}, {5, 1, 2, far, 5, api.OK}, {100000, 1, 2, 3, 5, api.OK}, {6, 2, 1, -2, 5, api.OK}, {6, 2, 1, -3, 0, api.ErrNone}, {6, 1, 1, 0, 5, api.OK}, {6, 1, 1, -1, 0, api.ErrNone},
	} {
		if hour, e := desk.Since(good, c.known, c.x, c.y, c.most); hour != c.hour || e != c.e {
			t.Error(c, hour, e)
		}
	}
	if hour, e := desk.Since(api.Book{}, 0, 0, 0, far); hour != 0 || e != api.ErrNone {
		t.Error(hour, e)
	}
	early := bookOf(api.Entry{Kind: api.EntNote, Text: noteText})
	if hour, e := desk.Since(early, 100000, 0, 1, 110); hour != 0 || e != api.OK {
		t.Error(hour, e)
	}
	// Two marks that nothing ties have no bound, unless it is that there is none.
	loose := bookOf(base(0, 0, api.EntSheet, sheetText), base(0, 1, api.EntNote, "dated 5 1 1"))
	for most, want := range map[int]api.Errno{far: api.OK, far - 1: api.ErrNone} {
		if _, e := desk.Since(loose, 5, 0, 2, most); e != want {
			t.Error(most, e)
		}
	}
}

// P10.2: what was known, then not, and then again is known since the second time.
func TestSinceAgain(t *testing.T) {
	b := bookOf(base(0, 0, api.EntSheet, sheetText), base(0, 1, api.EntNote, noteText),
		later(1, 0, api.EntDoubt, 20, place(0, 1), ""), later(1, 1, api.EntTrust, 30, place(0, 1), ""), later(1, 2, api.EntNote, 40, api.Place{}, ""), later(1, 3, api.EntWithdraw, 50, place(0, 0), ""))
	for known, want := range map[int]int{5: 5, 19: 5, 30: 30, 35: 30, 40: 30, 49: 30} {
		if hour, e := desk.Since(b, known, 0, 2, 113); hour != want || e != api.OK {
			t.Error(known, hour, e)
		}
	}
	for _, known := range []int{4, 20, 29, 50, 99} {
		if hour, e := desk.Since(b, known, 0, 2, 113); hour != 0 || e != api.ErrNone {
			t.Error(known, hour, e)
		}
	}
}

// naiveSince tries all hours.
func naiveSince(b api.Book, known, x, y, most int) (int, api.Errno) {
	since, e := 0, api.ErrNone
	for hour := known; hour >= 0; hour-- {
		_, greatest, f := cases.Bounds(naiveKnow(b, hour).World, x, y)
		if f != api.OK || greatest > most {
			break
		}
		since, e = hour, api.OK
	}
	return since, e
}

// P10.2: Since is the least hour of the chapter's text.
func TestSomeSince(t *testing.T) {
	d := dice(6)
	marks := []int{0, 1, 2, 65, 66}
	found := map[int]int{}
	for range 1500 {
		b := someBook(d, d.IntN(15))
		known, x, y, most := d.IntN(12), pick(d, marks...), pick(d, marks...), pick(d, -5, 0, 3, 12, 113, 130, far)
		hour, e := desk.Since(b, known, x, y, most)
		if want, f := naiveSince(b, known, x, y, most); hour != want || e != f {
			t.Fatalf("%v %d %d %d %d: %d %d, not %d %d", b, known, x, y, most, hour, e, want, f)
		}
		if e == api.OK {
			found[hour]++
		}
	}
	if len(found) < 9 {
		t.Error(found)
	}
}

package desk_test

import (
	"fmt"
	"slices"
	"strconv"
	"strings"
	"testing"

	"gyttja/api"
	"gyttja/cases"
	"gyttja/desk"
	"gyttja/plan"
	"gyttja/proof"
	"gyttja/years"
)

// queries are of all kinds; some of them are refused.
var queries = []string{
	"bounds 0 2", "bounds 2 1", "bounds 1 66", "bounds 1 1", "bounds 0 3", "bounds -1 5",
	"values 1 2", "values 0 66", "values 65 1", "values 2 2", "values 9 9",
	"when 7 0", "when 8 1", "when 9 65", "when 10 0", "when 7 9", "when 0 0", "when 6 9",
	"order 7 8", "order 8 7", "order 7 7", "order 9 7", "order 7 10", "order 6 7", "order 7 6",
	"count 0 100 112", "count 1 -5 5", "count 65 3 3", "count 0 5 4", "count 9 0 1", "count 0 0 100001",
	"prove 0 2", "prove 2 1", "prove 1 66", "prove 65 65", "prove 9 9",
	"conflict", "leaves", "left", "void", "standing",
	"plan 0 2 1:2:0:5", "plan 1 66 1:2:1:5 1:65:0:3 2:66:2:3", "plan 1 2 1:2:51:0", "plan 0 0 1:2:0:0", "plan 1 2 3:4:0:0", "plan -1 2 1:2:0:0",
	"since 1 2 3", "since 1 2 4", "since 0 2 113", "since 1 66 1000000000", "since 2 1 0",
}

// ask does a query at the only office of a desk that has these texts, of entries of the hour 5, and returns the lines of the answer.
func ask(query string, entries ...api.Entry) string {
	d := newDesk(1)
	for _, x := range entries {
		c := api.Command{Hour: 5, Kind: x.Kind, Args: []int{1}, Text: x.Text}
		if x.Kind > api.EntNote {
			c.Args = []int{1, x.Of.Office, x.Of.Seq}
		}
		if l := d.Do(c); !strings.HasPrefix(l[0], "entry") {
			panic(l[0])
		}
	}
	return done(d, "0 5 "+query)
}

func say(kind int, text string) api.Entry { return api.Entry{Kind: kind, Text: text} }

// P10.2: the answer of each query, and its errors.
func TestQueries(t *testing.T) {
	sheet, note, event := say(api.EntSheet, sheetText), say(api.EntNote, noteText), say(api.EntEvent, eventText)
	open, ash := say(api.EntJoin, openText), say(api.EntAsh, ashText)
	bad := say(api.EntNote, "dated 2 120 130")
	two := []api.Entry{sheet, note, event, say(api.EntEvent, "event 8 1 1 2 4")}
	loose := []api.Entry{say(api.EntAsh, "ash 1 2 1 9 1 9 1 9\nash 2 66 3 4 3 4 3 4"), say(api.EntEvent, "event 3 0 66 -1 2"), note}
	var nine []api.Entry
	for i := range 9 {
		nine = append(nine, say(api.EntEvent, "event "+strconv.Itoa(i+1)+" 0 1 0 0"))
	}
	for _, c := range []struct {
		query, want string
		entries     []api.Entry
	}{
		{"bounds 0 2", "102 113", two}, {"bounds 2 0", "-113 -102", two}, {"bounds 2 2", "0 0", two}, {"bounds 0 5", "error 3", two}, {"bounds 0 1", "error 3", nil}, {"bounds 0 2", "error 25", append(two, bad)}, {"bounds 0 5", "error 3", append(two, bad)}, {"bounds 2 66", "-1000000000 1000000000", loose},
		{"values 1 2", "2 2|4 4", []api.Entry{open}}, {"values 65 1", "-2 -2|0 0", []api.Entry{open}}, {"values 0 2", "102 113", two}, {"values 0 9", "error 3", two}, {"values 0 2", "error 25", append(two, bad)}, {"values 2 66", "-1000000000 1000000000", loose},
		{"when 7 0", "102 114", two}, {"when 7 2", "0 1", two}, {"when 8 0", "102 114", two}, {"when 6 9", "error 4", two}, {"when 7 9", "error 3", two}, {"when 7 0", "error 25", append(two, bad)}, {"when 5 0", "error 4", append(two, bad)}, {"when 1 1", "2 2|4 4", []api.Entry{open, say(api.EntEvent, "event 1 0 2 0 0")}},
		{"order 7 8", "older same younger", two}, {"order 8 7", "older same younger", two}, {"order 7 7", "older same younger", two}, {"order 6 7", "error 4", two}, {"order 7 6", "error 4", two}, {"order 7 8", "error 25", append(two, bad)}, {"order 1 2", "older", append(two, say(api.EntEvent, "event 1 0 2 0 0"), say(api.EntEvent, "event 2 0 1 1 1"))}, {"order 2 1", "younger", append(two, say(api.EntEvent, "event 1 0 2 0 0"), say(api.EntEvent, "event 2 0 1 1 1"))}, {"order 1 1", "same", append(two, say(api.EntEvent, "event 1 0 2 0 0"))}, {"order 1 2", "older same", append(two, say(api.EntEvent, "event 1 0 2 0 0"), say(api.EntEvent, "event 2 0 1 1 2"))}, {"order 2 1", "same younger", append(two, say(api.EntEvent, "event 1 0 2 0 0"), say(api.EntEvent, "event 2 0 1 1 2"))}, {"order 7 3", "error 3", append(two, say(api.EntEvent, "event 3 0 9 0 0"))},
		{"count 0 102 114", "2 2", two}, {"count 0 0 101", "0 0", two}, {"count 0 102 104", "0 2", two}, {"count 0 5 4", "error 60", two}, {"count 5 0 1", "error 3", two}, {"count 0 -100001 4", "error 60", two}, {"count 0 0 1", "error 25", append(two, bad)}, {"count 0 0 1", "0 0", []api.Entry{sheet, note}}, {"count 0 0 1", "error 3", nil}, {"count 1 0 0", "8 8", append(nine[:8:8], sheet)}, {"count 1 0 0", "error 2", append(nine, sheet)}, {"count 9 5 4", "error 2", nine},
		{"prove 0 2", "proof 0 2 113|end 1+ 0+", two}, {"prove 2 2", "proof 2 2 0|end", two}, {"prove 2 0", "proof 2 0 -102|end 0- 1-", two}, {"prove 0 9", "error 3", two}, {"prove 0 2", "error 25", append(two, bad)}, {"prove 2 66", "error 5", loose}, {"prove 1 66", "proof 1 66 4|ask 0|end 2+|end 2+", []api.Entry{open}}, {"prove 0 9", "error 2", []api.Entry{ash, ash, open}},
		{"conflict", "none", two}, {"conflict", "none", nil}, {"conflict", "0:0 0:1 0:4", append(two, bad)}, {"conflict", "0:1 0:3", []api.Entry{event, note, open, say(api.EntNote, "dated 1 5 6"), bad}},
		{"leaves", "1", nil}, {"leaves", "1", two}, {"leaves", "2", []api.Entry{open}}, {"leaves", "0", append(two, bad, open)}, {"leaves", "6", []api.Entry{ash}}, {"leaves", "6", []api.Entry{ash, say(api.EntSheet, sheetText)}},
		{"left", "none", nil}, {"left", "none", two}, {"left", "0:0 of 2 : 0 1", []api.Entry{open}}, {"left", "0:1 of 2 : 0", []api.Entry{sheet, open}}, {"left", "0:1 of 2 : 0|0:3 of 6 : 0 1 4 5", []api.Entry{sheet, open, note, ash, say(api.EntNote, "a")}}, {"left", "error 25", append(two, bad)}, {"left", "error 25", append(two, bad, open)},
		{"void", "none", nil}, {"void", "none", two}, {"void", "0 1 12|0 3 82", []api.Entry{event, say(api.EntSheet, "x"), note, event}}, {"void", "0 2 102", []api.Entry{event, note, say(api.EntJoin, "x"), say(api.EntWithdraw, "")}},
		{"standing", "none", nil}, {"standing", "0 0|0 1|0 2|0 3", two}, {"standing", "0 2|0 1", []api.Entry{note, event, {Kind: api.EntCorrect, Of: place(0, 0), Text: "x"}}}, {"standing", "0 1", []api.Entry{note, say(api.EntJoin, "x"), {Kind: api.EntWithdraw, Of: place(0, 0)}}}, {"standing", "none", []api.Entry{note, {Kind: api.EntDoubt, Of: place(0, 0)}}},
		{"plan 0 2 1:2:0:5", "0 11 2", two}, {"plan 0 2 1:2:0:5 0:2:1:9", "1 3 103", two}, {"plan 0 2 1:1:0:5", "error 90", two}, {"plan 0 0 1:2:0:5", "error 90", two}, {"plan 0 2 1:9:0:5", "error 3", two}, {"plan 0 2 1:2:0:5", "error 25", append(two, bad)}, {"plan 0 9 1:2:0:5", "error 3", two},
		{"since 1 2 3", "5", two}, {"since 1 2 1", "error 4", two}, {"since 0 9 1", "error 4", two}, {"since 1 2 1", "error 4", nil},
	} {
		if answer := ask(c.query, c.entries...); answer != c.want {
			t.Errorf("%s: %s, not %s", c.query, answer, c.want)
		}
	}
}

// P10.2, R7: a proof is told of a world with at most 60 cases; of more ErrLong, ahead of the errors of proof.Prove.
func TestLimitOfProve(t *testing.T) {
	ash := func(n int) api.Entry { return say(api.EntAsh, first(desk.PrintAsh(ashes(n)))) }
	for _, c := range []struct {
		query, want string
		entries     []api.Entry
	}{
		{"prove 1 65", "error 5", []api.Entry{ash(5)}}, // 52
		{"prove 1 1", "proof 1 1 0", []api.Entry{ash(4), ash(2), ash(2)}},
		{"prove 1 9", "error 3", []api.Entry{ash(4), ash(2), ash(2)}},          // 15 * 2 * 2 = 60
		{"prove 1 9", "error 2", []api.Entry{ash(5), ash(2)}},                  // 104
		{"prove 1 9", "error 2", []api.Entry{ash(4), ash(3)}},                  // 75
		{"prove 1 1", "error 2", slices.Repeat([]api.Entry{ash(2)}, 6)},        // 64
		{"prove 1 1", "proof 1 1 0", slices.Repeat([]api.Entry{ash(2)}, 5)},    // 32
		{"prove 1 65", "error 2", append([]api.Entry{ash(5), ash(3)}, ash(2))}, // 520
	} {
		if answer := ask(c.query, c.entries...); answer != c.want && !strings.HasPrefix(answer, c.want+"|") {
			t.Errorf("%s: %s, not %s", c.query, answer, c.want)
		}
	}
}

// P10.2: a query is answered at its hour, and by the book of its office.
func TestHours(t *testing.T) {
	d := newDesk(2)
	done(d, `0 5 sheet 1 "`+strings.ReplaceAll(sheetText, "\n", `\n`)+`"`, `0 7 note 1 "dated 1 100 110"`, `0 9 withdraw 1 0 0`)
	for line, want := range map[string]string{
		"0 4 bounds 1 2": "error 3", "0 5 bounds 1 2": "2 3", "0 6 bounds 0 2": "error 3", "0 7 bounds 0 2": "102 113", "0 8 bounds 0 2": "102 113", "0 9 bounds 0 2": "error 3", "0 9 bounds 0 1": "100 110", "1 9 bounds 0 1": "error 3",
		"0 4 standing": "none", "0 7 standing": "0 0|0 1", "0 9 standing": "0 1", "1 9 standing": "none", "0 8 since 0 2 113": "7", "0 9 since 0 2 113": "error 4", "0 9 since 0 1 110": "7", "1 9 since 0 1 110": "error 4", "0 100000 leaves": "1",
	} {
		if answer := done(d, line); answer != want {
			t.Errorf("%s: %s, not %s", line, answer, want)
		}
	}
}

// refusedOr is the answer that a function's results make.
func refusedOr(e api.Errno, l ...string) string {
	if e != api.OK {
		return "error " + strconv.Itoa(int(e))
	}
	if len(l) == 0 {
		return "none"
	}
	return strings.Join(l, "|")
}

func runLines(l []api.Run) []string {
	var told []string
	for _, r := range l {
		told = append(told, fmt.Sprint(r.Lo, " ", r.Hi))
	}
	return told
}

func sourceName(by int) string { return fmt.Sprintf("%d:%d", (by-1)/10000, (by-1)%10000) }

// dueAnswer follows the chapter's table, but of prove and since.
func dueAnswer(b api.Book, c api.Command) string {
	k := naiveKnow(b, c.Hour)
	w, a := k.World, append(slices.Clone(c.Args), 0, 0)
	event := func(id int) (api.Event, bool) {
		i := slices.IndexFunc(k.Events, func(v api.Event) bool { return v.Id == id })
		if i < 0 {
			return api.Event{}, false
		}
		return k.Events[i], true
	}
	v, isV := event(a[0])
	u, isU := event(a[1])
	switch c.Kind {
	case api.CmdBounds:
		lo, hi, e := cases.Bounds(w, a[0], a[1])
		return refusedOr(e, fmt.Sprint(lo, " ", hi))
	case api.CmdValues:
		l, e := cases.Values(w, a[0], a[1])
		return refusedOr(e, runLines(l)...)
	case api.CmdWhen:
		if !isV {
			return "error 4"
		}
		l, e := years.When(w, v, a[1])
		return refusedOr(e, runLines(l)...)
	case api.CmdOrder:
		if !isV || !isU {
			return "error 4"
		}
		o, e := years.Which(w, v, u)
		words := strings.Join(slices.DeleteFunc([]string{map[bool]string{true: "older"}[o.Older], map[bool]string{true: "same"}[o.Same], map[bool]string{true: "younger"}[o.Younger]}, func(s string) bool { return s == "" }), " ")
		return refusedOr(e, words)
	case api.CmdCount:
		least, most, e := years.Count(w, k.Events, a[0], api.Run{Lo: a[1], Hi: a[2]})
		return refusedOr(e, fmt.Sprint(least, " ", most))
	}
	return dueList(b, c, k)
}

// dueList is dueAnswer of the other queries.
func dueList(b api.Book, c api.Command, k api.Known) string {
	w := k.World
	var told []string
	switch c.Kind {
	case api.CmdConflict:
		l, e := cases.Conflict(w)
		for _, by := range l {
			told = append(told, sourceName(by))
		}
		if e == api.ErrNone {
			return "none"
		}
		return refusedOr(e, strings.Join(told, " "))
	case api.CmdLeaves:
		l, e := cases.Leaves(w)
		return refusedOr(e, strconv.Itoa(len(l)))
	case api.CmdLeft:
		l, e := cases.Left(w)
		for i, choices := range l {
			told = append(told, fmt.Sprintf("%s of %d : %s", sourceName(w.Questions[i].By), len(w.Questions[i].Choices), strings.Trim(fmt.Sprint(choices), "[]")))
		}
		return refusedOr(e, told...)
	case api.CmdVoid:
		for _, v := range k.Void {
			told = append(told, fmt.Sprint(v.At.Office, " ", v.At.Seq, " ", int(v.Code)))
		}
	case api.CmdStanding:
		for _, x := range b.Entries {
			if heir, stands := naiveHeir(b, c.Hour, x); x.Kind <= api.EntNote && stands {
				told = append(told, fmt.Sprint(heir.At.Office, " ", heir.At.Seq))
			}
		}
	case api.CmdPlan:
		p, e := plan.Best(w, c.Pieces, api.Ask{A: c.Args[0], B: c.Args[1]})
		return refusedOr(e, fmt.Sprint(p.Piece, " ", p.Worst, " ", p.Outcome))
	case api.CmdSince:
		hour, e := naiveSince(b, c.Hour, c.Args[0], c.Args[1], c.Args[2])
		return refusedOr(e, strconv.Itoa(hour))
	}
	return refusedOr(api.OK, told...)
}

// write lets the only office of a desk, and others that send to it, write the entries of a book; it returns the desk.
func write(b api.Book) *desk.Desk {
	d := newDesk(3)
	for _, x := range b.Entries {
		c := api.Command{Office: x.At.Office, Hour: x.Hour, Kind: x.Kind, Args: []int{x.Reader}, Text: x.Text}
		if x.Kind > api.EntNote {
			c.Args = append(c.Args, x.Of.Office, x.Of.Seq)
		}
		d.Do(c)
	}
	done(d, "1 0 send 0", "2 0 send 0")
	return d
}

// P10.2: whatever a book says, each query is answered as the chapter's table tells; a proof is accepted by the checker.
func TestSomeQueries(t *testing.T) {
	d := dice(9)
	told := map[string]int{}
	for range 300 {
		x := write(someBook(d, d.IntN(16)))
		b := x.Book(0)
		for _, query := range queries {
			c := command(fmt.Sprint("0 ", d.IntN(11), " ", query))
			answer := x.Do(c)
			if len(answer) == 0 {
				t.Fatal(query)
			}
			if !strings.HasPrefix(answer[0], "error") && answer[0] != "none" {
				told[strings.Fields(query)[0]]++
			}
			if c.Kind == api.CmdProve {
				checkProve(t, naiveKnow(b, c.Hour).World, c, answer)
				continue
			}
			if want := dueAnswer(b, c); strings.Join(answer, "|") != want {
				t.Fatalf("%v: %v: %q, not %s", b, c, answer, want)
			}
		}
	}
	for _, form := range table {
		if word := strings.Fields(form)[0]; strings.Contains(tell(queries), word) && told[word] < 20 {
			t.Error(word, told)
		}
	}
}

// checkProve checks an answer of prove.
func checkProve(t *testing.T, w api.World, c api.Command, answer []string) {
	t.Helper()
	leaves := 1
	for _, q := range w.Questions {
		leaves *= len(q.Choices)
	}
	due, e := proof.Prove(w, c.Args[0], c.Args[1])
	if leaves > 60 {
		e = api.ErrLong
	}
	if e != api.OK {
		if got := strings.Join(answer, "|"); got != refusedOr(e) {
			t.Fatal(c, got, e)
		}
		return
	}
	text := strings.Join(answer, "\n") + "\n"
	p, _, f := proof.Parse(text)
	if again, _ := proof.Print(p); f != api.OK || again != text || p.A != due.A || p.B != due.B || p.Most != due.Most || proof.Check(w, p) != api.OK {
		t.Fatal(c, answer)
	}
}

// P10.2: a query changes nothing.
func TestQueriesChangeNothing(t *testing.T) {
	d := dice(10)
	x := write(someBook(d, 20))
	b := x.Book(0)
	for _, query := range queries {
		c := command("0 9 " + query)
		one := x.Do(c)
		if again := x.Do(c); !slices.Equal(one, again) || !slices.Equal(x.Book(0).Entries, b.Entries) {
			t.Error(query, one, again)
		}
	}
	if answer := done(x, "0 9 crash 0 0"); answer == "entries "+strconv.Itoa(len(b.Entries)) {
		t.Error(answer)
	}
}

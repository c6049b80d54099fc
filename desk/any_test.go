package desk_test

import (
	"slices"
	"strings"
	"testing"

	"gyttja/api"
	"gyttja/desk"
)

// odd are texts of which few are lines, scripts or what entries say.
var odd = []string{"", " ", "\n", "\"", "\\", "\"\\", "#", "\x00", "\xff\xfe", "0", "-", ":", "0 0", "0 0 plan 0 0 :::", strings.Repeat("\"", 101), strings.Repeat("0 0 sync\n", 201), strings.Repeat("a", 60001), "join", "x\nx\nx", "ash 1", "event", "dated", "proof 0 0 0\nend\n", "join 0 0 1\nx\ny", "\u00a0", "0 0 sync\u2028"}

// P1, R2: no function of texts panics, whatever the text is; beside an error all else is zero, and so is the place without one.
func TestAnyTexts(t *testing.T) {
	for _, s := range odd {
		if words, at, e := desk.Words(s); e != api.OK && len(words) > 0 || e == api.OK && at != 0 {
			t.Errorf("%.40q: %q %d %d", s, words, at, e)
		}
		if c, at, e := desk.Parse(s); e != api.OK && !sameCommands(c, api.Command{}) || e == api.OK && at != 0 {
			t.Errorf("%.40q: %v %d %d", s, c, at, e)
		}
		if j, at, e := desk.ParseJoin(s); e != api.OK && tell(j) != tell(api.Beside{}) || e == api.OK && at != 0 {
			t.Errorf("%.40q: %v %d %d", s, j, at, e)
		}
		if f, at, e := desk.ParseAsh(s); e != api.OK && tell(f) != tell(api.Falls{}) || e == api.OK && at != 0 {
			t.Errorf("%.40q: %v %d %d", s, f, at, e)
		}
		if v, at, e := desk.ParseEvent(s); e != api.OK && v != (api.Event{}) || e == api.OK && at != 0 {
			t.Errorf("%.40q: %v %d %d", s, v, at, e)
		}
		if x, tells := desk.ParseNote(s); tells || x != (api.Span{}) {
			t.Errorf("%.40q: %v", s, x)
		}
		if told, at, e := desk.Run(s); e != api.OK && told != "" || e == api.OK && at != 0 {
			t.Errorf("%.40q: %.40q %d %d", s, told, at, e)
		}
		for _, told := range odd {
			if at, e := desk.Audit(s, told); e == api.OK && at != 0 {
				t.Errorf("%.40q, %.40q: %d %d", s, told, at, e)
			}
			desk.Audit("0 0 prove 0 0\n"+s, told)
		}
		desk.Quote(s)
	}
}

// P1, R2: no function of numbers panics, whatever these are.
func TestAnyNumbers(t *testing.T) {
	book := bookOf(base(0, 0, api.EntSheet, sheetText), base(1, 0, api.EntEvent, eventText))
	for _, n := range extremes {
		if d, e := desk.New(n); (d != nil) != (e == api.OK) || (e == api.OK) != (1 <= n && n <= 8) {
			t.Error(n, d, e)
		}
		if b := newDesk(2).Book(n); len(b.Entries) > 0 {
			t.Error(n, b)
		}
		desk.Know(book, n)
		for _, m := range extremes {
			x := api.Entry{At: place(n, m), Kind: n, Hour: m, Reader: n, Of: place(m, n)}
			desk.Know(api.Book{Entries: []api.Entry{x}}, n)
			if hour, e := desk.Since(book, n, m, n, m); e != api.OK && hour != 0 {
				t.Error(n, m, hour, e)
			}
			desk.Since(api.Book{Entries: []api.Entry{x, x}}, n, m, n, m)
			j := api.Beside{Rule: api.Rule{Tol: n, Edits: m, Overlap: n}, A: n, B: m, C: m, D: n, X: []int{n, m}, Y: []int{m}}
			if text, e := desk.PrintJoin(j); e == api.OK || text != "" {
				t.Error(j, text)
			}
			if q, e := desk.JoinQuestion(j, m); e == api.OK || tell(q) != tell(api.Question{}) {
				t.Error(j, q)
			}
			f := api.Falls{Ashes: []api.Ash{{Id: n, Mark: m, Grain: grain(n, m, m, n, n, n)}}, Ties: []api.Tie{{A: n, B: m}}}
			if text, e := desk.PrintAsh(f); e == api.OK || text != "" {
				t.Error(f, text)
			}
			if q, e := desk.AshQuestion(f, n); e == api.OK || tell(q) != tell(api.Question{}) {
				t.Error(f, q)
			}
			s := api.Sheet{Id: n, Reader: m, Core: n, Rows: []api.Row{{Kind: n, N: m, M: n}}}
			if l, e := desk.SheetClaims(s, m); len(l) > 0 {
				t.Error(s, l, e)
			}
		}
	}
}

// P1: no command makes Do panic, and each has an answer of at least one line.
func TestAnyCommands(t *testing.T) {
	d := newDesk(2)
	done(d, `0 5 join 1 "join 0 1 1\nx 1 2 10 20 5\ny 65 66 30 5"`, `0 5 event 1 "event 7 1 2 0 1"`)
	for i, n := range extremes {
		for _, m := range []int{0, 1, 2, extremes[len(extremes)-1-i]} {
			for kind := range 35 {
				for _, args := range [][]int{nil, {n}, {n, m}, {n, m, n}} {
					c := api.Command{Kind: kind, Hour: 5, Args: args}
					if l := d.Do(c); len(l) == 0 {
						t.Error(c)
					}
					c.Text, c.Pieces = "a", []api.Piece{{A: n, B: m, Miss: n, Cost: m}}
					if l := d.Do(c); len(l) != 1 || kind != api.CmdPlan && l[0] != "error 100" {
						c.Pieces = nil
						if l := d.Do(c); len(l) == 0 {
							t.Error(c)
						}
					}
					c = api.Command{Office: n, Hour: m, Kind: kind, Args: args}
					if l := d.Do(c); len(l) == 0 {
						t.Error(c)
					}
				}
			}
		}
	}
}

// R3: nil and empty lists are the same.
func TestEmptyLists(t *testing.T) {
	c := api.Command{Kind: api.CmdSync, Args: []int{}, Pieces: []api.Piece{}}
	if line, e := desk.Print(c); line != "0 0 sync" || e != api.OK {
		t.Error(line, e)
	}
	if answer := newDesk(1).Do(c); !slices.Equal(answer, []string{"ok"}) {
		t.Error(answer)
	}
	if text, e := desk.PrintAsh(api.Falls{Ashes: []api.Ash{}, Ties: []api.Tie{}}); text != "" || e != api.OK {
		t.Error(text, e)
	}
	if q, e := desk.AshQuestion(api.Falls{Ashes: []api.Ash{}}, 1); len(q.Choices) != 1 || e != api.OK {
		t.Error(q, e)
	}
	for _, j := range []api.Beside{{Rule: api.Rule{Overlap: 1}}, {Rule: api.Rule{Overlap: 1}, X: []int{}, Y: []int{}}} {
		if text, e := desk.PrintJoin(j); text != "" || e != api.ErrPiece {
			t.Error(text, e)
		}
	}
	for _, b := range []api.Book{{}, {Entries: []api.Entry{}}} {
		if k := desk.Know(b, 5); tell(k) != tell(api.Known{}) {
			t.Error(k)
		}
		if hour, e := desk.Since(b, 5, 1, 2, 3); hour != 0 || e != api.ErrNone {
			t.Error(hour, e)
		}
	}
	if l, e := desk.SheetClaims(api.Sheet{Id: 1, Reader: 1, Rows: []api.Row{}}, 1); len(l) != 0 || e != api.OK {
		t.Error(l, e)
	}
}

// spoilClaims changes claims, and what may lie behind them.
func spoilClaims(l []api.Claim) {
	for i := range l {
		l[i] = claim(77, 77, 77, 77, 77)
	}
	_ = append(l, claim(77, 77, 77, 77, 77))
}

// spoilQuestions changes each choice, and checks that this changes no other one.
func spoilQuestions(t *testing.T, l []api.Question) {
	for i, q := range l {
		for k := range q.Choices {
			before := tell(q.Choices[k+1:]) + tell(l[i+1:])
			spoilClaims(q.Choices[k])
			if tell(q.Choices[k+1:])+tell(l[i+1:]) != before {
				t.Error(i, k, before)
			}
		}
		l[i].By = 77
	}
}

// R4: a result shares no memory with an argument, with what is kept, or with another part of it.
func TestMemory(t *testing.T) {
	c := command("1 5 plan 0 9 5:6:2:10 1:2:3:4")
	line := first(desk.Print(c))
	if !sameCommands(c, command("1 5 plan 0 9 5:6:2:10 1:2:3:4")) || line != "1 5 plan 0 9 5:6:2:10 1:2:3:4" {
		t.Error(c)
	}
	j := beside()
	first(desk.PrintJoin(j))
	q := first(desk.JoinQuestion(besideOf(openText), 3))
	spoilQuestions(t, []api.Question{q})
	desk.JoinQuestion(j, 3)
	if tell(j) != tell(beside()) {
		t.Error(j)
	}
	f := falls()
	first(desk.PrintAsh(f))
	spoilQuestions(t, []api.Question{first(desk.AshQuestion(f, 3))})
	if tell(f) != tell(falls()) {
		t.Error(f)
	}
	s := sheetOf(sheetText)
	spoilClaims(first(desk.SheetClaims(s, 3)))
	if tell(s) != tell(sheetOf(sheetText)) {
		t.Error(s)
	}
	x, _, _ := desk.ParseJoin(openText)
	_ = append(x.X, 77)
	x.X[0] = 77
	if tell(x.Y) != tell([]int{30, 5}) {
		t.Error(x)
	}
	d := dice(16)
	b := someBook(d, 30)
	before := tell(b)
	k := desk.Know(b, 9)
	again := tell(k)
	spoilClaims(k.World.Claims)
	spoilQuestions(t, k.World.Questions)
	for i := range k.Events {
		k.Events[i].Id = 77
	}
	for i := range k.Void {
		k.Void[i].Code = 77
	}
	desk.Since(b, 9, 1, 2, 3)
	if tell(b) != before || tell(desk.Know(b, 9)) != again {
		t.Error(b)
	}
}

// R4: what is done to a command, an answer or a book does not change a desk.
func TestMemoryOfDesk(t *testing.T) {
	d := newDesk(2)
	c := command(`0 5 correct 1 0 3 "x"`)
	answer := d.Do(c)
	answer[0] = "y"
	c.Args[0], c.Args[2] = 7, 7
	b := d.Book(0)
	want := api.Entry{Kind: api.EntCorrect, Hour: 5, Reader: 1, Of: place(0, 3), Text: "x"}
	if b.Entries[0] != want {
		t.Error(b)
	}
	done(d, "0 5 send 1")
	for office := range 2 {
		other := d.Book(office)
		other.Entries[0].Text = "y"
		_ = append(other.Entries, want)
		if b := d.Book(office); len(b.Entries) != 1 || b.Entries[0] != want {
			t.Error(b)
		}
	}
	done(d, `1 5 note 1 "z"`)
	if b := d.Book(0); len(b.Entries) != 1 {
		t.Error(b)
	}
	c = command("1 5 plan 0 9 5:6:2:10 1:2:3:4")
	d.Do(c)
	if !sameCommands(c, command("1 5 plan 0 9 5:6:2:10 1:2:3:4")) {
		t.Error(c)
	}
}

// P10.2: two desks have nothing in common.
func TestTwoDesks(t *testing.T) {
	d, other := newDesk(1), newDesk(1)
	done(d, `0 5 note 1 "x"`)
	if b := other.Book(0); len(b.Entries) != 0 {
		t.Error(b)
	}
	if answer := done(other, `0 5 note 1 "y"`); answer != "entry 0 0" || d.Book(0).Entries[0].Text != "x" {
		t.Error(answer)
	}
}

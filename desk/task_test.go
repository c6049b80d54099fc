package desk_test

import (
	"fmt"
	"math/rand/v2"
	"slices"
	"strconv"
	"strings"
	"testing"

	"gyttja/api"
	"gyttja/desk"
)

// P10.2, R7: a desk has 1 to 8 offices, which have no entries.
func TestNew(t *testing.T) {
	for n := 1; n <= 8; n++ {
		d, e := desk.New(n)
		if d == nil || e != api.OK {
			t.Fatal(n, e)
		}
		for office := -1; office <= 8; office++ {
			if b := d.Book(office); len(b.Entries) != 0 {
				t.Error(n, office, b)
			}
			if office < 0 || office == 8 {
				continue
			}
			want := "ok"
			if office >= n {
				want = "error 103"
			}
			if answer := done(d, strconv.Itoa(office)+" 0 sync"); answer != want {
				t.Error(n, office, answer)
			}
		}
	}
	for _, n := range []int{0, -1, 9, far} {
		if d, e := desk.New(n); d != nil || e != api.ErrArg {
			t.Error(n, d, e)
		}
	}
}

// P10.2, R3: a nil desk has no offices, and refuses each command.
func TestNilDesk(t *testing.T) {
	var d *desk.Desk
	if b := d.Book(0); len(b.Entries) != 0 {
		t.Error(b)
	}
	for _, c := range []api.Command{{}, {Kind: api.CmdSync}, command("7 5 bounds 0 1")} {
		if answer := d.Do(c); !slices.Equal(answer, []string{"error 100"}) {
			t.Error(answer)
		}
	}
	if answer := done(&desk.Desk{}, "0 0 sync"); answer != "error 103" {
		t.Error(answer)
	}
}

// P10.2: a command of each kind of entries writes one, with its place, its hour, and what stands in its line.
func TestEntries(t *testing.T) {
	d := newDesk(2)
	for i, c := range []struct {
		line, answer string
		want         api.Entry
	}{
		{`1 5 sheet 3 "a\nb"`, "entry 1 0", api.Entry{Kind: 1, Hour: 5, Reader: 3, Text: "a\nb"}},
		{`1 100000 join 0 ""`, "entry 1 1", api.Entry{Kind: 2, Hour: 100000}},
		{`1 0 ash 99 "x"`, "entry 1 2", api.Entry{Kind: 3, Reader: 99, Text: "x"}},
		{`1 1 event 1 "x"`, "entry 1 3", api.Entry{Kind: 4, Hour: 1, Reader: 1, Text: "x"}},
		{`1 1 note 2 "x"`, "entry 1 4", api.Entry{Kind: 5, Hour: 1, Reader: 2, Text: "x"}},
		{`1 2 correct 3 7 9999 "y"`, "entry 1 5", api.Entry{Kind: 6, Hour: 2, Reader: 3, Of: place(7, 9999), Text: "y"}},
		{`1 2 withdraw 4 0 1`, "entry 1 6", api.Entry{Kind: 7, Hour: 2, Reader: 4, Of: place(0, 1)}},
		{`1 2 doubt 5 1 0`, "entry 1 7", api.Entry{Kind: 8, Hour: 2, Reader: 5, Of: place(1, 0)}},
		{`1 2 trust 6 0 0`, "entry 1 8", api.Entry{Kind: 9, Hour: 2, Reader: 6, Of: place(0, 0)}},
	} {
		answer := done(d, c.line)
		c.want.At = place(1, i)
		if b := d.Book(1); answer != c.answer || len(b.Entries) != i+1 || b.Entries[i] != c.want {
			t.Error(c, answer, b)
		}
	}
	if b := d.Book(0); len(b.Entries) != 0 {
		t.Error(b)
	}
}

// P10.2, R1, R2: what cannot be an entry is refused with ErrEntry, and changes nothing; an office that there is not is ahead of that.
func TestWrongEntries(t *testing.T) {
	d := newDesk(2)
	done(d, `0 5 note 1 "x"`)
	for line, want := range map[string]string{
		`0 5 note 100 "x"`: "error 80", `0 5 note -1 "x"`: "error 80", `0 5 correct 1 8 0 "x"`: "error 80", `0 5 correct 1 0 10000 "x"`: "error 80", `0 5 withdraw 1 -1 0`: "error 80", `0 5 doubt 1 0 -1`: "error 80", `0 5 trust 1000000000 0 0`: "error 80",
		`2 5 note 100 "x"`: "error 103", `7 5 withdraw 1 -1 0`: "error 103", "2 5 bounds 0 1": "error 103",
	} {
		if answer := done(d, line); answer != want || len(d.Book(0).Entries) != 1 || len(d.Book(1).Entries) != 0 {
			t.Error(line, answer)
		}
	}
}

// P10.2: the chapter's rules of crashes: what was made firm stays, and of the rest a beginning.
func TestActs(t *testing.T) {
	d := newDesk(2)
	// The frame of a note with one byte has 29 bytes.
	for _, c := range []struct{ line, answer string }{
		{`0 1 note 1 "a"`, "entry 0 0"}, {"0 1 crash 28 29", "entries 0"}, {`0 1 note 2 "a"`, "entry 0 0"}, {"0 1 crash 29 0", "entries 1"},
		{`0 1 note 1 "b"`, "entry 0 1"}, {`0 1 note 1 "c"`, "entry 0 2"}, {"0 1 crash 57 58", "entries 2"}, {"0 1 crash -5 0", "entries 2"},
		{"0 1 sync", "ok"}, {`0 1 note 1 "d"`, "entry 0 2"}, {"0 1 sync", "ok"}, {"0 1 crash 0 0", "entries 3"},
		{"0 1 pack", "ok"}, {`0 1 note 1 "e"`, "entry 0 3"}, {"0 1 crash 1000 28", "entries 3"}, {`0 1 note 1 "e"`, "entry 0 3"}, {"0 1 crash 0 1000000000", "entries 4"},
		{`0 1 note 1 "f"`, "entry 0 4"}, {"0 1 pack", "ok"}, {"0 1 crash 0 0", "entries 5"},
		{"0 1 send 0", "error 103"}, {"0 1 send 2", "error 103"}, {"0 1 send -1", "error 103"}, {"0 1 send 1", "entries 5"}, {"0 1 send 1", "entries 5"},
		{`1 1 note 1 "g"`, "entry 1 0"}, {"1 1 send 0", "entries 6"}, {"1 1 crash 0 0", "entries 6"}, {"0 1 crash 0 0", "entries 5"}, {"1 1 send 0", "entries 6"}, {"0 1 crash 0 28", "entries 5"},
		{`0 1 note 1 "h"`, "entry 0 5"}, {"0 1 send 1", "entries 7"}, {"0 1 crash 0 0", "entries 6"}, {"1 1 crash 28 0", "entries 6"},
	} {
		if answer := done(d, c.line); answer != c.answer {
			t.Fatal(c, answer)
		}
	}
}

// R2: a send that is refused because there is no such office makes nothing firm.
func TestRefusedSend(t *testing.T) {
	for _, send := range []string{"0 1 send 0", "0 1 send 3", "0 1 send 1000000000"} {
		if answer := done(newDesk(3), `0 1 note 1 "a"`, send, "0 1 crash 0 0"); answer != "entries 0" {
			t.Error(send, answer)
		}
	}
}

// journal is what an office has, by the chapters' text: entries that are firm, and others behind them.
type journal struct {
	firm, loose []api.Entry
	file        int
}

func (j journal) book() []api.Entry { return bookOf(slices.Concat(j.firm, j.loose)...).Entries }

func frameOf(x api.Entry) int { return 28 + len(x.Text) }

func (j *journal) put(x api.Entry) string {
	size := 22 + frameOf(x)
	for _, y := range j.book() {
		if y == x {
			return ""
		}
		if y.At == x.At {
			return "error 82"
		}
		size += frameOf(y)
	}
	if len(j.book()) == 200 {
		return "error 2"
	}
	if size > 200000 {
		return "error 84"
	}
	j.loose = append(j.loose, x)
	return ""
}

func (j *journal) sync() {
	j.firm, j.loose = append(j.firm, j.loose...), nil
}

func (j *journal) crash(kept []int) {
	left := kept[j.file]
	for _, x := range j.loose {
		if left -= frameOf(x); left < 0 {
			break
		}
		j.firm = append(j.firm, x)
	}
	j.loose = nil
}

// model is a desk of which each office is a journal.
type model []journal

// do does an entry or an act.
func (m model) do(c api.Command) string {
	if c.Office >= len(m) {
		return "error 103"
	}
	j := &m[c.Office]
	switch c.Kind {
	case api.CmdSync:
		j.sync()
		return "ok"
	case api.CmdPack:
		j.sync()
		j.file = 1 - j.file
		return "ok"
	case api.CmdCrash:
		j.crash(c.Args)
		return "entries " + strconv.Itoa(len(j.book()))
	case api.CmdSend:
		return m.send(c.Office, c.Args[0])
	}
	x := api.Entry{At: place(c.Office, 0), Kind: c.Kind, Hour: c.Hour, Reader: c.Args[0], Text: c.Text}
	for _, y := range j.book() {
		if y.At.Office == c.Office {
			x.At.Seq = y.At.Seq + 1
		}
	}
	if len(c.Args) == 3 {
		x.Of = place(c.Args[1], c.Args[2])
		if desk.Source(x.Of) == 0 {
			return "error 80"
		}
	}
	if x.Reader < 0 || x.Reader > 99 {
		return "error 80"
	}
	if refused := j.put(x); refused != "" {
		return refused
	}
	return fmt.Sprintf("entry %d %d", x.At.Office, x.At.Seq)
}

func (m model) send(from, to int) string {
	if to == from || to < 0 || to >= len(m) {
		return "error 103"
	}
	m[from].sync()
	for _, x := range m[from].book() {
		if refused := m[to].put(x); refused != "" {
			return refused
		}
	}
	return "entries " + strconv.Itoa(len(m[to].book()))
}

// someAct is the line of an entry or an act. Some texts are so long that a file is full soon.
func someAct(d *rand.Rand, offices, longest int) api.Command {
	c := api.Command{Office: d.IntN(offices), Hour: d.IntN(10), Kind: 1 + d.IntN(13)}
	if d.IntN(20) == 0 {
		c.Office = d.IntN(8)
	}
	if d.IntN(4) == 0 {
		c.Kind = api.CmdSend
	}
	switch c.Kind {
	case api.CmdSync, api.CmdPack:
	case api.CmdCrash:
		c.Args = []int{d.IntN(200) - 20, d.IntN(200) - 20}
	case api.CmdSend:
		c.Args = []int{d.IntN(offices+1) - d.IntN(2)}
	default:
		c.Args = []int{d.IntN(101) - d.IntN(2)}
		if c.Kind >= api.CmdCorrect {
			c.Args = append(c.Args, d.IntN(offices), d.IntN(8)-d.IntN(2)*d.IntN(2))
		}
		if c.Kind <= api.CmdCorrect {
			c.Text = strings.Repeat("a", d.IntN(longest+1))
		}
	}
	return c
}

// P10.2, P10.4, P6: whatever is written, made firm, packed, lost and sent, each answer and each book is as the chapters' text tells, and no send tells ErrTwo.
func TestSomeActs(t *testing.T) {
	d := dice(7)
	told := map[string]int{}
	for round := range 200 {
		offices := 1 + d.IntN(4)
		longest, acts := 3, 60
		if round%20 == 0 {
			longest = 8000
			acts = 300
		}
		if round%50 == 1 {
			acts, longest = 500, 0
		}
		x, m := newDesk(offices), make(model, offices)
		for range acts {
			c := someAct(d, offices, longest)
			if round%50 == 1 && c.Kind == api.CmdCrash {
				c.Kind, c.Args = api.CmdSync, nil
			}
			answer, want := strings.Join(x.Do(c), "|"), m.do(c)
			if answer != want {
				t.Fatal(c, answer, want)
			}
			if strings.HasPrefix(want, "error") {
				told[want]++
			}
			if c.Kind == api.CmdSend && answer == "error 82" {
				t.Fatal(c)
			}
			for office := range offices {
				if b := x.Book(office); !slices.Equal(b.Entries, m[office].book()) {
					t.Fatal(c, office, b)
				}
			}
		}
	}
	for _, refused := range []string{"error 2", "error 80", "error 84", "error 103"} {
		if told[refused] < 3 {
			t.Error(refused, told)
		}
	}
}

// P10.2: of a send that is refused what was put ahead of that stays, by the places of the entries.
func TestFullSend(t *testing.T) {
	d := newDesk(2)
	write := func(office, entries int) {
		for range entries {
			done(d, strconv.Itoa(office)+` 5 note 1 "x"`)
		}
	}
	write(0, 3)
	write(1, 198)
	if answer := done(d, "0 5 send 1"); answer != "error 2" || len(d.Book(1).Entries) != 200 || d.Book(1).Entries[1].At != place(0, 1) || d.Book(1).Entries[2].At != place(1, 0) {
		t.Error(answer, len(d.Book(1).Entries))
	}
	if answer := done(d, "0 5 crash 0 0"); answer != "entries 3" {
		t.Error("not firm", answer)
	}
	if answer := done(d, "0 5 send 1"); answer != "error 2" || len(d.Book(1).Entries) != 200 {
		t.Error(answer)
	}
	if answer := done(d, `1 5 note 1 "x"`); answer != "error 2" {
		t.Error(answer)
	}
	long := `0 5 note 1 "` + strings.Repeat("x", 8000) + `"`
	d = newDesk(2)
	for range 24 {
		done(d, long)
	}
	if answer := done(d, long); answer != "error 84" || len(d.Book(0).Entries) != 24 {
		t.Error(answer)
	}
	if answer := done(d, `0 5 note 1 "x"`); answer != "entry 0 24" {
		t.Error(answer)
	}
}

// P10.4, P6: when each office has sent to each other one twice, all books are equal, and all queries are answered alike.
func TestAllSent(t *testing.T) {
	d := dice(8)
	for range 60 {
		offices := 2 + d.IntN(3)
		x := newDesk(offices)
		for range 25 {
			c := someAct(d, offices, 3)
			if c.Kind <= api.CmdNote {
				c.Text = someText(d, c.Kind)
			}
			x.Do(c)
		}
		for range 2 {
			for from := range offices {
				for to := range offices {
					if answer := done(x, fmt.Sprintf("%d 9 send %d", from, to)); from != to && strings.HasPrefix(answer, "error") {
						t.Fatal(answer)
					}
				}
			}
		}
		for office := range offices {
			if !slices.Equal(x.Book(office).Entries, x.Book(0).Entries) {
				t.Fatal(office, x.Book(office), x.Book(0))
			}
			for _, query := range queries {
				if one, other := done(x, "0 7 "+query), done(x, strconv.Itoa(office)+" 7 "+query); one != other {
					t.Fatal(office, query, one, other)
				}
			}
		}
	}
}

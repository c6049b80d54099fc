package desk_test

import (
	"fmt"
	"math/rand/v2"
	"slices"
	"strconv"
	"strings"
	"testing"

	"gyttja/api"
	"gyttja/desk"
)

// run is what Run tells, as a list of lines.
func run(t *testing.T, script string) []string {
	t.Helper()
	told, at, e := desk.Run(script)
	if at != 0 || e != api.OK || told != "" && !strings.HasSuffix(told, "\n") {
		t.Fatal(told, at, e)
	}
	l := strings.Split(told, "\n")
	return l[:len(l)-1]
}

// P10.2: the chapter's script.
func TestExampleOfRun(t *testing.T) {
	script := `0 5 sheet 1 "sheet 1 reader 1 core 0\nmark 0\nyear 50\npair 60 70\nmark 1\n"
1 6 note 2 "dated 1 100 110"
1 6 bounds 0 2
1 6 send 0
0 6 bounds 0 2
0 7 event 3 "event 7 1 2 0 1"
0 7 when 7 0
0 7 prove 0 2
0 8 withdraw 1 1 0
0 8 bounds 0 2
0 8 since 1 2 3
`
	want := []string{"entry 0 0", "entry 1 0", "error 3", "entries 2", "102 113", "entry 0 1", "102 114", "proof 0 2 113", "end 1+ 0+", "entry 0 2", "error 3", "5"}
	if told := run(t, script); !slices.Equal(told, want) {
		t.Error(told)
	}
}

// P10.2, P2 to P6: the document's examples.
func TestExamplesOfDocument(t *testing.T) {
	script := `0 5 sheet 1 "sheet 1 reader 1 core 0\nmark 0\nyear 50\npair 60 70\nmark 1\n"
0 5 bounds 1 2
0 5 bounds 0 2
0 6 note 2 "dated 1 100 110"
0 6 bounds 0 2
0 7 event 3 "event 7 1 2 0 1"
0 7 when 7 0
0 7 prove 0 2
0 8 note 2 "dated 2 120 130"
0 8 conflict
0 9 withdraw 1 0 3
0 9 conflict
0 9 bounds 0 2
0 9 plan 0 2 1:2:0:5
0 9 crash 0 0
0 9 bounds 0 2`
	want := []string{"entry 0 0", "2 3", "error 3", "entry 0 1", "102 113", "entry 0 2", "102 114", "proof 0 2 113", "end 1+ 0+", "entry 0 3", "0:0 0:1 0:3", "entry 0 4", "none", "102 113", "0 11 2", "entries 0", "error 3"}
	if told := run(t, script); !slices.Equal(told, want) {
		t.Error(told)
	}
}

// P10.2: lines that say nothing are passed over; there are three offices, and the last line may lack its line feed.
func TestLinesOfScripts(t *testing.T) {
	for script, want := range map[string][]string{
		"": nil, "\n": nil, "#\x01\"\n# 9 9 x\n   \n": nil, "0 0 sync": {"ok"}, "\n\n 0  0 sync \n#\n2 0 sync\n3 0 sync\n7 0 sync": {"ok", "ok", "error 103", "error 103"},
		strings.Repeat(" ", 20001) + "\n0 0 sync": {"ok"}, "#" + strings.Repeat("a", 20001) + "\n0 0 sync": {"ok"},
		"0 0 left\n0 0 send 0\n0 0 send 3": {"none", "error 103", "error 103"},
	} {
		if told := run(t, script); !slices.Equal(told, want) {
			t.Errorf("%.40q: %q", script, told)
		}
	}
}

// P10.2, R1: the first error of Parse, with the number of its line; then nothing is done.
func TestWrongScripts(t *testing.T) {
	long := strings.Repeat("a", 20001)
	for script, want := range map[string]struct {
		at int
		e  api.Errno
	}{
		"0 0 books": {1, api.ErrLine}, "\n\n0 0 books": {3, api.ErrLine}, "0 0 sync\n# x\n0 0 sync 1\n\"": {3, api.ErrLine}, "0 0 sync\n\"\n0 0 books": {2, api.ErrWord}, "0 0 sync\n" + long: {2, api.ErrLong}, "0 0 sync" + strings.Repeat(" 1", 58): {1, api.ErrLong}, " #": {1, api.ErrLine}, "0 0 sync\r\n": {1, api.ErrWord}, "\t\n": {1, api.ErrWord}, "9 0 sync": {1, api.ErrLine}, "0 0 sync\n0 0 sync\n0 0 note 1 \"a\nb\"": {3, api.ErrWord},
	} {
		if told, at, e := desk.Run(script); told != "" || at != want.at || e != want.e {
			t.Errorf("%.40q: %q %d %d", script, told, at, e)
		}
		for _, told := range []string{"", "ok\n", "ok"} {
			if at, e := desk.Audit(script, told); at != want.at || e != want.e {
				t.Errorf("%.40q: %d %d", script, at, e)
			}
		}
	}
}

// P10.2, R1, R7: at most MaxScript bytes and MaxLines lines that say something; ErrLong is ahead of what is wrong in a line.
func TestLimitsOfScripts(t *testing.T) {
	full := strings.Repeat("0 0 sync\n", 200)
	pad := strings.Repeat("#\n", 30000)
	for _, c := range []struct {
		script string
		at     int
		e      api.Errno
	}{
		{full, 0, api.OK}, {full + "\n# x\n  \n", 0, api.OK}, {full + "0 0 sync", 0, api.ErrLong}, {"x\n" + full, 0, api.ErrLong}, {"\n#\n" + full + "\n9", 0, api.ErrLong}, {"x\n" + full[9:], 1, api.ErrLine},
		{pad, 0, api.OK}, {pad + "#", 0, api.ErrLong}, {"0 0 sync\n" + pad[9:], 0, api.OK}, {"x\n" + pad, 0, api.ErrLong}, {pad[:59991] + "\n0 0 sync", 0, api.OK}, {pad[:59992] + "\n0 0 sync", 0, api.ErrLong}, {"\x00" + strings.Repeat(" ", 59999), 1, api.ErrLong},
	} {
		told, at, e := desk.Run(c.script)
		if at != c.at || e != c.e || e != api.OK && told != "" {
			t.Errorf("%.20q, %d: %d %d", c.script, len(c.script), at, e)
		}
		if at, e := desk.Audit(c.script, told); at != c.at || e != c.e {
			t.Errorf("%.20q, %d: %d %d", c.script, len(c.script), at, e)
		}
	}
}

// audited is a script with proofs of several forms.
const audited = `0 5 sheet 1 "sheet 1 reader 1 core 0\nmark 0\nyear 50\npair 60 70\nmark 1\n"
0 5 note 1 "dated 1 100 110"
0 5 join 1 "join 0 1 1\nx 1 2 10 20 5\ny 65 66 30 5\n"
0 5 prove 0 1
0 5 bounds 0 1
0 5 prove 0 2
0 5 prove 0 9
0 5 values 1 66
0 5 left
0 5 prove 1 1`

// due are the lines of it.
var due = []string{"entry 0 0", "entry 0 1", "entry 0 2", "proof 0 1 110", "end 1+", "100 110", "proof 0 2 112", "ask 0", "end 1+ 2+", "end 0+ 2-", "error 3", "2 2", "0:2 of 2 : 0", "proof 1 1 0", "end"}

// changed returns the lines with others in the place of those from one number to another one, both included.
func changed(from, to int, lines ...string) []string {
	return slices.Concat(due[:from-1], lines, due[to:])
}

// P10.2, P3: what is told must be what is due, but a proof may be another one that the checker accepts.
func TestAudit(t *testing.T) {
	if told := run(t, audited); !slices.Equal(told, due) {
		t.Fatalf("%q", told)
	}
	for _, c := range []struct {
		told []string
		at   int
	}{
		{due, 0},
		// Other proofs.
		{changed(5, 5, "ask 0", "end 1+", "end 1+"), 0}, {changed(5, 5, "ask 0", "end 1+", "end 3- 0+"), 4}, {changed(5, 5, "ask 0", "end 1+", "end 0+ 2-"), 0}, {changed(15, 15, "end 0+ 0-"), 14}, {changed(15, 15, "ask 0", "end", "end"), 0}, {changed(15, 15, "end 3+"), 14}, {changed(9, 10, "end 1+ 2+", "end 2- 0+"), 0},
		// Not quite as it is printed.
		{changed(5, 5, "end  1+"), 4}, {changed(5, 5, "end 1+ "), 4}, {changed(5, 5, "#", "end 1+"), 4}, {changed(5, 5, "end 1+", "#"), 6}, {changed(5, 5, "end 1+", ""), 6}, {changed(4, 4, " proof 0 1 110"), 4}, {changed(4, 4, "#", "proof 0 1 110"), 4}, {changed(4, 4, "proof 0 1  110"), 4}, {changed(5, 5, " end 1+"), 4}, {changed(5, 5, "end 01+"), 4}, {changed(5, 5, "end 1+\r"), 4},
		// Of other marks, with another number, or no proof.
		{changed(4, 4, "proof 0 1 111"), 4}, {changed(4, 4, "proof 0 1 109"), 4}, {changed(4, 5, "proof 0 2 112", "ask 0", "end 1+ 2+", "end 0+ 2-"), 4}, {changed(4, 5, "proof 1 0 -100", "end 1-"), 4}, {changed(4, 5, "proof 2 1 110", "end 0-"), 4}, {changed(4, 5, "proof 0 0 110", "end"), 4}, {changed(4, 5, "proof 1 1 110", "end"), 4}, {changed(4, 5, "proof 1 1 0", "end"), 4}, {changed(4, 5, "proof 0 0 110", "end 1+ 1-"), 4}, {changed(14, 15, "proof 2 2 0", "end"), 14}, {changed(14, 14, "proof 1 1 1"), 14},
		{changed(5, 5, "end 0+"), 4}, {changed(5, 5, "end 1-"), 4}, {changed(5, 5, "end"), 4}, {changed(5, 5, "end 9+"), 4}, {changed(5, 5, "end 1+", "end 1+"), 4}, {changed(5, 5, "end 1+", "ask 0"), 4}, {changed(5, 5, "end 1+", "ended"), 4}, {changed(5, 5, "end 1+", "ask"), 6}, {changed(5, 5), 4}, {changed(8, 8), 7}, {changed(9, 9), 7}, {changed(10, 10), 7}, {changed(8, 10, "end 1+ 2+"), 7}, {changed(8, 8, "ask 1"), 7}, {changed(4, 5, "error 3"), 4}, {changed(4, 5), 4}, {changed(4, 4), 4}, {changed(4, 4, "ask 0"), 4},
		// Each other line.
		{changed(1, 1, "entry 0 1"), 1}, {changed(1, 1), 1}, {changed(2, 2, "error 2"), 2}, {changed(3, 3, "entry 0 2 "), 3}, {changed(6, 6, "100 111"), 6}, {changed(6, 6, "100  110"), 6}, {changed(6, 6), 6}, {changed(11, 11, "error 4"), 11}, {changed(11, 11, "proof 0 9 5", "end"), 11}, {changed(12, 12, "2 3"), 12}, {changed(12, 12, "2 2", "4 4"), 13}, {changed(13, 13, ""), 13}, {changed(13, 13, "#", "0:2 of 2 : 0"), 13}, {changed(13, 13, "0:2 of 2 : 0\r"), 13},
		// Too few, and too many.
		{nil, 1}, {due[:1], 2}, {due[:3], 4}, {due[:4], 4}, {due[:5], 6}, {due[:6], 7}, {due[:9], 7}, {due[:10], 11}, {due[:13], 14}, {due[:14], 14}, {changed(15, 15, "end", ""), 16}, {changed(15, 15, "end", "ok"), 16}, {changed(15, 15, "end", "end"), 14}, {changed(15, 15, "end", "# x"), 16},
		// Of several wrong lines the first one.
		{append(changed(5, 5, "end 0+"), "x"), 4}, {append(changed(2, 3, "x", "y"), "x"), 2},
	} {
		want := api.ErrTold
		if c.at == 0 {
			want = api.OK
		}
		if at, e := desk.Audit(audited, lined(c.told...)); at != c.at || e != want {
			t.Errorf("%q: %d %d, not %d", c.told, at, e, c.at)
		}
		if len(c.told) == 0 || c.told[len(c.told)-1] == "" {
			continue
		}
		// Without the line feed behind the last line this is wrong, if nothing else is.
		last := c.at
		if c.at == 0 {
			last = len(c.told)
		}
		if at, e := desk.Audit(audited, strings.TrimSuffix(lined(c.told...), "\n")); at != last || e != api.ErrTold {
			t.Errorf("%q: %d %d, not %d", c.told, at, e, last)
		}
	}
}

// P10.2: of nothing nothing is due.
func TestAuditOfNothing(t *testing.T) {
	for told, want := range map[string]int{"": 0, "\n": 1, "ok\n": 1, "ok": 1, "#\n": 1} {
		if at, e := desk.Audit("# x\n", told); at != want || (e == api.OK) != (want == 0) {
			t.Errorf("%q: %d %d", told, at, e)
		}
	}
}

// P10.2: a proof is checked in the world that its answer is about: that of the office, at the hour, and of what was written so far.
func TestWorldsOfProofs(t *testing.T) {
	script := `0 5 note 1 "dated 1 100 110"
0 7 note 1 "dated 1 100 105"
1 5 note 1 "dated 1 100 103"
0 5 prove 0 1
0 7 prove 0 1
1 5 prove 0 1
0 5 note 1 "dated 1 100 101"
0 5 prove 0 1
0 5 withdraw 1 0 0
0 5 prove 0 1`
	told := run(t, script)
	want := []string{"entry 0 0", "entry 0 1", "entry 1 0", "proof 0 1 110", "end 0+", "proof 0 1 105", "end 1+", "proof 0 1 103", "end 0+", "entry 0 2", "proof 0 1 101", "end 1+", "entry 0 3", "proof 0 1 101", "end 0+"}
	if at, e := desk.Audit(script, lined(want...)); !slices.Equal(told, want) || at != 0 || e != api.OK {
		t.Error(told, at, e)
	}
	for i, line := range want {
		if !strings.HasPrefix(line, "end") {
			continue
		}
		for _, other := range []string{"end 0+", "end 1+", "end 2+"} {
			l := slices.Clone(want)
			l[i] = other
			at, e := desk.Audit(script, lined(l...))
			if right := other == line; right != (e == api.OK) || !right && at != i {
				t.Error(l, at, e)
			}
		}
	}
}

// someScript has entries that often say something, acts and queries.
func someScript(d *rand.Rand, commands int) string {
	var b strings.Builder
	for range commands {
		c := someAct(d, 3, 3)
		if c.Kind <= api.CmdNote {
			c.Text = someText(d, c.Kind)
			c.Args[0] = d.IntN(99)
		}
		line := first(desk.Print(c))
		if d.IntN(3) == 0 {
			line = fmt.Sprint(d.IntN(3), " ", d.IntN(12), " ", pick(d, queries...))
		}
		if d.IntN(8) == 0 {
			line = fmt.Sprint("0 9 prove ", pick(d, "0 1", "1 2", "0 2", "2 66", "66 1", "1 1"))
		}
		b.WriteString(line + "\n" + pick(d, "", "", "", "\n", "# x\n"))
	}
	return b.String()
}

// P10.2, P10.7: Run tells the answers of a desk of three offices, and Audit accepts them.
func TestSomeScripts(t *testing.T) {
	d := dice(11)
	proofs := 0
	for range 150 {
		script := someScript(d, 40)
		told := run(t, script)
		x := newDesk(3)
		var want []string
		for line := range strings.Lines(script) {
			if line = strings.TrimSuffix(line, "\n"); line != "" && line[0] != '#' {
				want = append(want, x.Do(command(line))...)
			}
		}
		if !slices.Equal(told, want) {
			t.Fatal(script, told, want)
		}
		if at, e := desk.Audit(script, lined(told...)); at != 0 || e != api.OK {
			t.Fatal(script, told, at, e)
		}
		proofs += strings.Count(lined(told...), "proof")
		i := d.IntN(len(told))
		wrong := slices.Clone(told)
		wrong[i] += " "
		for i > 0 && (strings.HasPrefix(told[i], "ask ") || strings.HasPrefix(told[i], "end")) {
			i--
		}
		if at, e := desk.Audit(script, lined(wrong...)); at != i+1 || e != api.ErrTold {
			t.Fatal(script, wrong, at, e, i+1)
		}
	}
	if proofs < 60 {
		t.Error(proofs)
	}
}

// P10.7, P1: Audit accepts what Run tells of any text, and nothing panics.
func FuzzRun(f *testing.F) {
	f.Add(audited, lined(due...))
	f.Add(audited, lined(changed(5, 5, "ask 0", "end 1+", "end 1+")...))
	for query := range slices.Values(queries) {
		f.Add("0 5 "+query, "none\n")
	}
	f.Fuzz(func(t *testing.T, script, told string) {
		right, at, e := desk.Run(script)
		if e != api.OK && right != "" || e == api.OK && at != 0 {
			t.Fatal(right, at, e)
		}
		if again, f := desk.Audit(script, right); again != at || f != e {
			t.Fatal(again, f, at, e)
		}
		wrong, f := desk.Audit(script, told)
		if e != api.OK && (wrong != at || f != e) || e == api.OK && f == api.OK && wrong != 0 || e == api.OK && f != api.OK && (f != api.ErrTold || wrong < 1 || wrong > strings.Count(told, "\n")+2) {
			t.Fatal(strconv.Quote(script), strconv.Quote(told), wrong, f)
		}
	})
}

package desk_test

import (
	"regexp"
	"slices"
	"strconv"
	"strings"
	"testing"

	"gyttja/api"
	"gyttja/desk"
)

// table is the chapter's table of commands: N is a number, T a text, P a piece.
var table = map[int]string{
	1: "sheet N T", 2: "join N T", 3: "ash N T", 4: "event N T", 5: "note N T", 6: "correct N N N T", 7: "withdraw N N N", 8: "doubt N N N", 9: "trust N N N",
	10: "sync", 11: "pack", 12: "crash N N", 13: "send N",
	20: "bounds N N", 21: "values N N", 22: "when N N", 23: "order N N", 24: "count N N N", 25: "prove N N", 26: "conflict", 27: "leaves", 28: "left", 29: "void", 30: "standing", 31: "plan N N P", 32: "since N N N",
}

// sample is a right command of a kind, with different numbers, and its line.
func sample(kind int) (api.Command, string) {
	c := api.Command{Office: 1, Hour: 5, Kind: kind}
	line := "1 5"
	for i, part := range strings.Fields(table[kind]) {
		switch part {
		case "N":
			c.Args = append(c.Args, 10*i-15)
			line += " " + strconv.Itoa(10*i-15)
		case "T":
			c.Text = "a\n\"b\\"
			line += ` "a\n\"b\\"`
		case "P":
			c.Pieces = []api.Piece{{A: 5, B: 6, Miss: 2, Cost: 10}, {A: 0, B: far, Miss: 0, Cost: 1}}
			line += " 5:6:2:10 0:1000000000:0:1"
		default:
			line += " " + part
		}
	}
	return c, line
}

func sameCommands(c, d api.Command) bool {
	return c.Office == d.Office && c.Hour == d.Hour && c.Kind == d.Kind && slices.Equal(c.Args, d.Args) && c.Text == d.Text && slices.Equal(c.Pieces, d.Pieces)
}

// P10.1, P10.2: each command of the table is read and printed, with one space or with many.
func TestCommands(t *testing.T) {
	for kind := range table {
		c, line := sample(kind)
		if got, at, e := desk.Parse(line); !sameCommands(got, c) || at != 0 || e != api.OK {
			t.Error(line, got, at, e)
		}
		if got, at, e := desk.Parse("  " + strings.ReplaceAll(line, " ", "   ") + " "); !sameCommands(got, c) || at != 0 || e != api.OK {
			t.Error(line, got, at, e)
		}
		if got, e := desk.Print(c); got != line || e != api.OK {
			t.Error(c, got, e)
		}
	}
}

// P10.2: the chapter's examples.
func TestExamplesOfParse(t *testing.T) {
	if c, at, e := desk.Parse("1 5 doubt 3 0 2"); !sameCommands(c, api.Command{Office: 1, Hour: 5, Kind: api.CmdDoubt, Args: []int{3, 0, 2}}) || at != 0 || e != api.OK {
		t.Error(c, at, e)
	}
	plan := api.Command{Office: 1, Hour: 5, Kind: api.CmdPlan, Args: []int{0, 9}, Pieces: []api.Piece{{A: 5, B: 6, Miss: 2, Cost: 10}}}
	if c, at, e := desk.Parse("1 5 plan 0 9 5:6:2:10"); !sameCommands(c, plan) || at != 0 || e != api.OK {
		t.Error(c, at, e)
	}
}

// P10.2, R1, R9: the place of the first word that is not as the table says, or the length of the line.
func TestWrongLines(t *testing.T) {
	long := strings.Repeat("a", 8001)
	for line, want := range map[string]int{
		"9 5 sync": 0, "1 5 bounds 4": 12, "1 5 sync 1": 9, "# x": 3, "": 0, "    ": 4, "#": 1, "#\x01\"": 3, "# \"": 3, " # x": 1,
		"8 5 sync": 0, "-1 5 sync": 0, "07 5 sync": 0, "+1 5 sync": 0, "x 5 sync": 0, `"1" 5 sync`: 0, "1": 1, "1 ": 2, " 9": 1,
		"1 100001 sync": 2, "1 -1 sync": 2, "1 00 sync": 2, "1 5": 3, "1  5 ": 5, `1 "5" sync`: 2, "1 5: sync": 2, "9 100001 x": 0,
		"1 5 syncs": 4, "1 5 Sync": 4, `1 5 "sync"`: 4, "1 5 #": 4, "1 5 sheets 2": 4, "1 5 ": 4, "1 5 sy nc": 4,
		"1 5 bounds 4 5 6": 15, "1 5 bounds x 5": 11, "1 5 bounds 4 x": 13, "1 5 bounds x": 11, "1 5 bounds -0 1": 11, "1 5 bounds 1000000001 1": 11, "1 5 bounds -1000000001 1": 11, "1 5 bounds 10000000000 1": 11, "1 5 bounds --1 1": 11, "1 5 bounds 1- 1": 11, `1 5 bounds "1" 1`: 11,
		"1 5 sheet 2 x": 12, "1 5 sheet 2": 11, `1 5 sheet "x"`: 10, `1 5 sheet 2 "x" "y"`: 16, `1 5 sheet 2 "` + long + `"`: 12, `1 5 withdraw 1 2 3 "x"`: 19, `1 5 correct 1 2 "x"`: 16, "1 5 correct 1 2 3": 17, "1 5 correct 1 2 3 4": 18,
		"1 5 plan 0 9": 12, "1 5 plan 0 9 5:6:2": 13, "1 5 plan 0 9 5:6:2:1:1": 13, "1 5 plan 0 9 5:6:-2:1": 13, "1 5 plan 0 9 5:6:02:1": 13, "1 5 plan 0 9 5:6::1": 13, "1 5 plan 0 9 5:6:2:1000000001": 13, "1 5 plan 0 9 :5:6:2": 13, `1 5 plan 0 9 "5:6:2:1"`: 13, "1 5 plan 0 9 1:1:1:1 5": 21, "1 5 plan 0 1:1:1:1": 11, "1 5 plan 0 9 5:6:2:x 9": 13, "1 5 plan 0 9 5 6 2 1": 13, "1 5 plan 0 9 5:6:2:-0": 13,
		"1 5 plan 0 9" + strings.Repeat(" 1:2:3:4", 13): 12 + 12*8 + 1,
		"1 5 sync" + strings.Repeat(" 1", 57):           9,
	} {
		if c, at, e := desk.Parse(line); !sameCommands(c, api.Command{}) || at != want || e != api.ErrLine {
			t.Errorf("%.60q: %v %d %d", line, c, at, e)
		}
	}
}

// P10.2, R1: the errors of Words are ahead of those of the table, but of a line that begins with # only that of its length.
func TestWordsAheadOfTable(t *testing.T) {
	long := strings.Repeat("a", 20001)
	for _, c := range []struct {
		line string
		at   int
		e    api.Errno
	}{
		{"9 9 x \"", 6, api.ErrWord}, {"x" + strings.Repeat(" a", 60), 0, api.ErrLong}, {long, 0, api.ErrLong}, {"#" + long[1:], 0, api.ErrLong}, {strings.Repeat(" ", 20001), 0, api.ErrLong},
		{"#" + long[2:], 20000, api.ErrLine}, {"#" + strings.Repeat(" a", 60), 121, api.ErrLine}, {strings.Repeat(" ", 20000), 20000, api.ErrLine}, {" # \x01", 3, api.ErrWord},
	} {
		if got, at, e := desk.Parse(c.line); !sameCommands(got, api.Command{}) || at != c.at || e != c.e {
			t.Errorf("%.9q: %v %d %d", c.line, got, at, e)
		}
	}
}

// P10.2, R7: the limits of numbers, texts and pieces are within the table.
func TestLimitsOfLines(t *testing.T) {
	text := strings.Repeat("\\", 7999) + "\n"
	for _, c := range []api.Command{
		{Office: 0, Hour: 0, Kind: api.CmdSync}, {Office: 7, Hour: 100000, Kind: api.CmdSync},
		{Kind: api.CmdBounds, Args: []int{-far, far}}, {Kind: api.CmdCrash, Args: []int{0, -1}},
		{Office: 7, Hour: 100000, Kind: api.CmdCorrect, Args: []int{-far, -far, -far}, Text: text}, {Kind: api.CmdNote, Args: []int{0}},
		{Kind: api.CmdPlan, Args: []int{-far, -far}, Pieces: slices.Repeat([]api.Piece{{A: far, B: far, Miss: far, Cost: far}}, 12)},
		{Kind: api.CmdPlan, Args: []int{0, 0}, Pieces: []api.Piece{{}}},
	} {
		line, e := desk.Print(c)
		if e != api.OK || len(line) > api.MaxLine {
			t.Error(c, len(line), e)
		}
		if got, at, e := desk.Parse(line); !sameCommands(got, c) || at != 0 || e != api.OK {
			t.Error(c, got, at, e)
		}
	}
}

// wrongCommands are such as differ in one thing from a right one.
func wrongCommands() []api.Command {
	var l []api.Command
	add := func(c api.Command, change func(*api.Command)) {
		c.Args, c.Pieces = slices.Clone(c.Args), slices.Clone(c.Pieces)
		change(&c)
		l = append(l, c)
	}
	for kind, form := range table {
		c, _ := sample(kind)
		for _, n := range []int{-1, 8, 100001, far + 1} {
			add(c, func(c *api.Command) { c.Office = n })
		}
		for _, n := range []int{-1, 100001} {
			add(c, func(c *api.Command) { c.Hour = n })
		}
		add(c, func(c *api.Command) { c.Args = append(c.Args, 1) })
		for i := range c.Args {
			add(c, func(c *api.Command) { c.Args = c.Args[:i] })
			add(c, func(c *api.Command) { c.Args[i] = far + 1 })
			add(c, func(c *api.Command) { c.Args[i] = -far - 1 })
		}
		if strings.HasSuffix(form, "T") {
			for _, text := range []string{"\t", "a\x1f", "\x7f", "\u00e9", strings.Repeat("a", 8001)} {
				add(c, func(c *api.Command) { c.Text = text })
			}
		} else {
			add(c, func(c *api.Command) { c.Text = "a" })
		}
		if !strings.HasSuffix(form, "P") {
			add(c, func(c *api.Command) { c.Pieces = []api.Piece{{A: 1, B: 2}} })
			continue
		}
		add(c, func(c *api.Command) { c.Pieces = nil })
		add(c, func(c *api.Command) { c.Pieces = slices.Repeat(c.Pieces, 7)[:13] })
		for _, n := range []int{-1, far + 1} {
			add(c, func(c *api.Command) { c.Pieces[0].A = n })
			add(c, func(c *api.Command) { c.Pieces[1].B = n })
			add(c, func(c *api.Command) { c.Pieces[1].Miss = n })
			add(c, func(c *api.Command) { c.Pieces[0].Cost = n })
		}
	}
	for _, kind := range append([]int{14, 15, 16, 17, 18, 19, 33}, extremes...) {
		if table[kind] == "" {
			l = append(l, api.Command{Kind: kind}, api.Command{Kind: kind, Args: []int{1, 2}})
		}
	}
	return l
}

// P10.2, R2, R8: ErrLine is told of each command that is not right, by Print and by Do.
func TestWrongCommands(t *testing.T) {
	d := newDesk(8)
	for _, c := range wrongCommands() {
		if line, e := desk.Print(c); line != "" || e != api.ErrLine {
			t.Errorf("%.200v: %.60q %d", c, line, e)
		}
		if answer := d.Do(c); !slices.Equal(answer, []string{"error 100"}) {
			t.Errorf("%.200v: %q", c, answer)
		}
	}
}

var numberPattern = regexp.MustCompile(`^(0|-?[1-9][0-9]{0,9})$`)

// isNumber reports whether a word is a number from lo to hi.
func isNumber(word string, lo, hi int) bool {
	n, _ := strconv.Atoi(word)
	return numberPattern.MatchString(word) && lo <= n && n <= hi
}

var partPattern = regexp.MustCompile(`^(0|[1-9][0-9]*):(0|[1-9][0-9]*):(0|[1-9][0-9]*):(0|[1-9][0-9]*)$`)

// suits reports whether a word is what the table asks for.
func suits(part, word string) bool {
	switch part {
	case "N":
		return isNumber(word, -far, far)
	case "T":
		return word[0] == '"' && len(word) <= 8001
	case "P":
		return partPattern.MatchString(word)
	}
	return word == part
}

// wrongWord is the index of the first word that is not as the table says: the number of all words, if one is missing, and -1, if nothing is wrong.
func wrongWord(words []string) int {
	if len(words) > 0 && !isNumber(words[0], 0, 7) {
		return 0
	}
	if len(words) > 1 && !isNumber(words[1], 0, 100000) {
		return 1
	}
	if len(words) < 3 {
		return len(words)
	}
	var form []string
	for _, line := range table {
		if f := strings.Fields(line); f[0] == words[2] {
			form = f
		}
	}
	if form == nil {
		return 2
	}
	for i, word := range words[2:] {
		part := form[min(i, len(form)-1)]
		if i >= len(form) && (part != "P" || i >= len(form)+11) || !suits(part, word) {
			return i + 2
		}
	}
	if len(words)-2 < len(form) {
		return len(words)
	}
	return -1
}

// P10.1, P10.2: lines made of words that often suit are read as the table says, and printed as lines with the same command.
func TestSomeLines(t *testing.T) {
	d := dice(1)
	odd := []string{"0", "1", "5", "7", "8", "-3", "100000", "100001", "01", "x", `"x"`, `""`, "1:2:3:4", "0:0:0:0", "1:2:3", "sync", "plan"}
	read := 0
	for range 40000 {
		kind := pick(d, 1, 5, 6, 7, 10, 12, 20, 24, 31, 31, 32)
		_, line := sample(kind)
		words := strings.Fields(line)
		if strings.HasSuffix(table[kind], "T") {
			words[len(words)-1] = `"t"`
		}
		for range d.IntN(3) {
			i := d.IntN(len(words) + 1)
			words = slices.Replace(words, i, min(i+d.IntN(2), len(words)), pick(d, odd...))
		}
		if d.IntN(4) == 0 {
			words = words[:d.IntN(len(words)+1)]
		}
		var places []int
		text, meantWords := "", []string(nil)
		for _, w := range words {
			text += strings.Repeat(" ", 1+d.IntN(2))
			places = append(places, len(text))
			text += w
			meantWords = append(meantWords, strings.TrimSuffix(w, `"`))
		}
		text += strings.Repeat(" ", d.IntN(2))
		c, at, e := desk.Parse(text)
		i := wrongWord(meantWords)
		if i < 0 {
			read++
			line, f := desk.Print(c)
			again, _, g := desk.Parse(line)
			if at != 0 || e != api.OK || f != api.OK || g != api.OK || !sameCommands(c, again) || line != strings.Join(words, " ") {
				t.Fatalf("%q: %v %d %d %q", text, c, at, e, line)
			}
			continue
		}
		if want := append(places, len(text))[i]; at != want || e != api.ErrLine || !sameCommands(c, api.Command{}) {
			t.Fatalf("%q: %v %d %d, not %d", text, c, at, e, want)
		}
	}
	if read < 3000 {
		t.Error(read)
	}
}

// P10.1: Parse and Print are inverse for whatever is read.
func FuzzParse(f *testing.F) {
	for kind := range table {
		_, line := sample(kind)
		f.Add(line)
	}
	f.Add(`"a\`)
	f.Add("# \"")
	f.Fuzz(func(t *testing.T, line string) {
		c, at, e := desk.Parse(line)
		if e != api.OK {
			if !sameCommands(c, api.Command{}) || at < 0 || at > len(line) || e != api.ErrLine && e != api.ErrWord && e != api.ErrLong {
				t.Fatalf("%q: %v %d %d", line, c, at, e)
			}
			return
		}
		printed, e := desk.Print(c)
		again, _, f := desk.Parse(printed)
		if e != api.OK || f != api.OK || !sameCommands(c, again) {
			t.Fatalf("%q: %v %q", line, c, printed)
		}
		words, _, _ := desk.Words(line)
		same, _, _ := desk.Words(printed)
		if !slices.Equal(words, same) {
			t.Fatalf("%q %q", words, same)
		}
	})
}

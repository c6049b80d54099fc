package desk_test

import (
	"math/rand/v2"
	"slices"
	"strconv"
	"strings"
	"testing"

	"gyttja/api"
	"gyttja/desk"
)

func beside() api.Beside {
	return api.Beside{Rule: api.Rule{Tol: 3, Edits: 1, Overlap: 2}, A: 1, B: 2, C: 65, D: 67, X: []int{50, 60}, Y: []int{60, 70, 80}}
}

func grain(numbers ...int) [3]api.Band {
	return [3]api.Band{{Lo: numbers[0], Hi: numbers[1]}, {Lo: numbers[2], Hi: numbers[3]}, {Lo: numbers[4], Hi: numbers[5]}}
}

func falls() api.Falls {
	return api.Falls{
		Ashes: []api.Ash{{Id: 1, Mark: 5, Grain: grain(1, 9, 2, 8, 3, 7)}, {Id: 2, Mark: 70, Grain: grain(3, 4, 3, 4, 3, 4)}, {Id: 4, Mark: 71, Grain: grain(0, 10000, 0, 0, 1, 1)}},
		Ties:  []api.Tie{{A: 1, B: 2, Same: true}, {A: 2, B: 4}, {A: 1, B: 2, Same: true}},
	}
}

// P10.1, P10.2: the texts of the chapter, as they are printed and read.
func TestTexts(t *testing.T) {
	text := "join 3 1 2\nx 1 2 50 60\ny 65 67 60 70 80\n"
	if got, e := desk.PrintJoin(beside()); got != text || e != api.OK {
		t.Errorf("%q %d", got, e)
	}
	for _, s := range []string{text, strings.TrimSuffix(text, "\n"), "# \x01\n\n  " + strings.ReplaceAll(text, " ", "   ") + "#\n ", "\n\n" + strings.ReplaceAll(text, "\n", " \n#x\n")} {
		if j, at, e := desk.ParseJoin(s); tell(j) != tell(beside()) || at != 0 || e != api.OK {
			t.Errorf("%q: %v %d %d", s, j, at, e)
		}
	}
	ashes := "ash 1 5 1 9 2 8 3 7\nash 2 70 3 4 3 4 3 4\nash 4 71 0 10000 0 0 1 1\n"
	ties := "same 1 2\nnot 2 4\nsame 1 2\n"
	if got, e := desk.PrintAsh(falls()); got != ashes+ties || e != api.OK {
		t.Errorf("%q %d", got, e)
	}
	for _, s := range []string{ashes + ties, ties + ashes, "same 1 2\nash 1 5 1 9 2 8 3 7\nash 2 70 3 4 3 4 3 4\nnot 2 4\n\n#\nsame 1 2\n  ash  4 71 0 10000 0 0 1 1 "} {
		if f, at, e := desk.ParseAsh(s); tell(f) != tell(falls()) || at != 0 || e != api.OK {
			t.Errorf("%q: %v %d %d", s, f, at, e)
		}
	}
	for _, s := range []string{"event 7 1 2 -3 1", "\n#\n event  7 1 2 -3 1 \n\n#", "event 7 1 2 -3 1\n"} {
		if v, at, e := desk.ParseEvent(s); v != (api.Event{Id: 7, Kind: 1, Mark: 2, Lo: -3, Hi: 1}) || at != 0 || e != api.OK {
			t.Errorf("%q: %v %d %d", s, v, at, e)
		}
	}
}

// P10.2: the chapter's examples.
func TestExamplesOfTexts(t *testing.T) {
	if v, at, e := desk.ParseEvent("event 7 1 5 0"); v != (api.Event{}) || at != 1 || e != api.ErrSay {
		t.Error(v, at, e)
	}
	if x, tells := desk.ParseNote("dated 5 100 110"); x != (api.Span{A: 0, B: 5, Lo: 100, Hi: 110}) || !tells {
		t.Error(x, tells)
	}
}

// P10.2, R1: the line that is not as it must be, then the one that is missing, then what is not valid.
func TestWrongJoins(t *testing.T) {
	const x, y = "x 1 2 50 60\n", "y 65 67 60 70\n"
	thick := strings.Repeat(" 1", 25)
	for text, want := range map[string]struct {
		at int
		e  api.Errno
	}{
		"": {1, api.ErrSay}, "\n#\n": {3, api.ErrSay}, "join 0 0 1": {2, api.ErrSay}, "join 0 0 1\n" + x: {3, api.ErrSay}, "join 0 0 1\n" + x + "\n#": {5, api.ErrSay},
		x + y: {1, api.ErrSay}, "join 0 0 1\n" + y + x: {2, api.ErrSay}, "\njoin 0 0 1\n\n" + x + "\nz": {6, api.ErrSay}, "join 0 0 1\n" + x + y + y: {4, api.ErrSay}, "join 0 0 1\n" + x + y + "\n.": {5, api.ErrSay}, "join 0 0 1\n" + x + x: {3, api.ErrSay},
		"join 0 0\n" + x + y: {1, api.ErrSay}, "join 0 0 1 1\n" + x + y: {1, api.ErrSay}, "joins 0 0 1\n" + x + y: {1, api.ErrSay}, "join 00 0 1\n" + x + y: {1, api.ErrSay}, "join 0 0 1000000001\n" + x + y: {1, api.ErrSay}, "join 0 0 -1000000001\n" + x + y: {1, api.ErrSay}, "join 0 -0 1\n" + x + y: {1, api.ErrSay}, "join 0 0 1\r\n" + x + y: {1, api.ErrSay}, "Join 0 0 1\n" + x + y: {1, api.ErrSay},
		"join 0 0 1\nx 1\n" + y: {2, api.ErrSay}, "join 0 0 1\nx\n" + y: {2, api.ErrSay}, "join 0 0 1\nx 1 2 50 a\n" + y: {2, api.ErrSay}, "join 0 0 1\n" + x + "y 65\n": {3, api.ErrSay}, "join 0 0 1\n" + x + "y 65 67 +1": {3, api.ErrSay}, "join 0 0 1\nx\ty 1 2 3\n" + y: {2, api.ErrSay}, "join 0 0 1\n x 1 2 3\n" + "#" + y: {4, api.ErrSay},
		"join 0 0 0\n" + x + y: {0, api.ErrRule}, "join 0 7 1\nx 0 0\ny 0 0": {0, api.ErrRule}, "join -1 0 1\n" + x + y: {0, api.ErrRule}, "join 1000000000 0 1\n" + x + y: {0, api.ErrRule}, "join 0 0 25\n" + x: {3, api.ErrSay},
		"join 0 0 1\nx 1 2\n" + y: {0, api.ErrPiece}, "join 0 0 1\nx 1 2" + thick + "\n" + y: {0, api.ErrPiece}, "join 0 0 1\nx 2 1 0\n" + y: {0, api.ErrPiece}, "join 0 0 1\nx 1 2 -5\n" + y: {0, api.ErrPiece}, "join 0 0 1\n" + x + "y 65 67": {0, api.ErrPiece}, "join 0 0 1\n" + x + "y 65 67" + thick: {0, api.ErrPiece}, "join 0 0 1\nx 2 1 5\ny 1 1 100001": {0, api.ErrPiece},
		"join 0 0 1\nx 2 2 50\n" + y: {0, api.ErrMark}, "join 0 0 1\nx 2 1 50\n" + y: {0, api.ErrMark}, "join 0 0 1\nx 0 1 50\n" + y: {0, api.ErrMark}, "join 0 0 1\nx -1 1 50\n" + y: {0, api.ErrMark}, "join 0 0 1\nx 64 65 50\n" + y: {0, api.ErrMark}, "join 0 0 1\nx 65 66 50\n" + y: {0, api.ErrMark}, "join 0 0 1\n" + x + "y 3 4 50": {0, api.ErrMark}, "join 0 0 1\n" + x + "y 67 65 50": {0, api.ErrMark}, "join 0 0 1\n" + x + "y 65 65 50": {0, api.ErrMark}, "join 0 0 1\n" + x + "y 2048 2049 50": {0, api.ErrMark}, "join 0 0 1\n" + x + "y 128 129 50": {0, api.ErrMark}, "join 0 0 1\n" + x + "y -5 -4 50": {0, api.ErrMark}, "join 0 0 1\nx -5 -4 50\n" + y: {0, api.ErrMark}, "join 0 0 1\n" + x + "y 1000000000 1 50": {0, api.ErrMark},
	} {
		if j, at, e := desk.ParseJoin(text); tell(j) != tell(api.Beside{}) || at != want.at || e != want.e {
			t.Errorf("%q: %v %d %d", text, j, at, e)
		}
	}
}

// P10.2, R1, R2: what is not valid is not printed; of several errors the first one named is told.
func TestWrongBesides(t *testing.T) {
	for _, c := range []struct {
		change func(j *api.Beside)
		e      api.Errno
	}{
		{func(j *api.Beside) { j.Rule.Overlap, j.X, j.Y, j.A = 0, nil, nil, 0 }, api.ErrRule}, {func(j *api.Beside) { j.Rule.Tol = 100001 }, api.ErrRule}, {func(j *api.Beside) { j.Rule.Edits = -1 }, api.ErrRule},
		{func(j *api.Beside) { j.X, j.A = nil, 0 }, api.ErrPiece}, {func(j *api.Beside) { j.Y, j.D = []int{0}, 1 }, api.ErrPiece}, {func(j *api.Beside) { j.X = slices.Repeat([]int{1}, 25) }, api.ErrPiece}, {func(j *api.Beside) { j.Y[2] = 100001 }, api.ErrPiece},
		{func(j *api.Beside) { j.A = 0 }, api.ErrMark}, {func(j *api.Beside) { j.A = 2 }, api.ErrMark}, {func(j *api.Beside) { j.B = 65 }, api.ErrMark}, {func(j *api.Beside) { j.C, j.D = 3, 4 }, api.ErrMark}, {func(j *api.Beside) { j.C = 67 }, api.ErrMark}, {func(j *api.Beside) { j.D = 129 }, api.ErrMark}, {func(j *api.Beside) { j.C, j.D = 2048, 2049 }, api.ErrMark}, {func(j *api.Beside) { j.A, j.B, j.C, j.D = 65, 66, 70, 71 }, api.ErrMark},
	} {
		j := beside()
		c.change(&j)
		if text, e := desk.PrintJoin(j); text != "" || e != c.e {
			t.Errorf("%v: %q %d", j, text, e)
		}
		if q, e := desk.JoinQuestion(j, 5); tell(q) != tell(api.Question{}) || e != c.e {
			t.Errorf("%v: %v %d", j, q, e)
		}
		if q, e := desk.JoinQuestion(j, 0); tell(q) != tell(api.Question{}) || e != api.ErrArg {
			t.Errorf("%v: %v %d", j, q, e)
		}
	}
	for _, marks := range [][4]int{{1, 64, 65, 128}, {65, 66, 1, 2}, {1985, 2048, 1, 2}, {1, 2, 2047, 2048}} {
		j := beside()
		j.A, j.B, j.C, j.D = marks[0], marks[1], marks[2], marks[3]
		if _, e := desk.PrintJoin(j); e != api.OK {
			t.Error(marks, e)
		}
	}
}

// P10.2, R1: likewise of ash, of which no line is missing: a text that says nothing is of no ashes.
func TestWrongAshes(t *testing.T) {
	const a, b = "ash 1 5 1 9 1 9 1 9\n", "ash 2 70 1 9 1 9 1 9\n"
	many := ""
	for i := range 10 {
		many += "ash " + strconv.Itoa(i+1) + " " + strconv.Itoa(i+1) + " 1 2 1 2 1 2\n"
	}
	for text, want := range map[string]struct {
		at int
		e  api.Errno
	}{
		"": {}, "\n#\n": {}, a: {}, b + "\n": {}, a + b + strings.Repeat("not 1 2\n", 60): {},
		"ash 1 5 1 9 1 9 1": {1, api.ErrSay}, a + "ash 2 70 1 9 1 9 1 9 1": {2, api.ErrSay}, a + "ash": {2, api.ErrSay}, a + "\nash 2 70 1 9 1 9 1 x\n": {3, api.ErrSay}, "ashes 1 5 1 9 1 9 1 9": {1, api.ErrSay}, a + b + "same 1": {3, api.ErrSay}, a + b + "same 1 2 3": {3, api.ErrSay}, a + b + "not 1 02": {3, api.ErrSay}, a + b + "not 2": {3, api.ErrSay}, a + b + "Same 1 2": {3, api.ErrSay}, "same 1 2\nx": {2, api.ErrSay}, "ash 0 5 1 9 1 9 1 9\nnot": {2, api.ErrSay}, "tie 1 2": {1, api.ErrSay}, " # 1 2": {1, api.ErrSay},
		"ash 0 5 1 9 1 9 1 9": {0, api.ErrAsh}, b + a: {0, api.ErrAsh}, a + a: {0, api.ErrAsh}, "ash 1 -5 1 9 1 9 1 9": {0, api.ErrAsh}, "ash 1 5 1 9 9 1 1 9": {0, api.ErrAsh}, "ash 1 5 1 9 1 9 1 10001": {0, api.ErrAsh}, "ash 1 5 -1 9 1 9 1 9\nsame 1 2": {0, api.ErrAsh}, many: {0, api.ErrAsh}, "not 2 1\n" + b + a: {0, api.ErrAsh},
		a + b + "same 2 1": {0, api.ErrTie}, "same 1 2": {0, api.ErrTie}, a + "not 1 2": {0, api.ErrTie}, a + b + "same 1 1": {0, api.ErrTie}, a + b + strings.Repeat("not 1 2\n", 61): {0, api.ErrTie},
	} {
		f, at, e := desk.ParseAsh(text)
		if at != want.at || e != want.e || e != api.OK && tell(f) != tell(api.Falls{}) {
			t.Errorf("%q: %v %d %d", text, f, at, e)
		}
	}
}

// P10.2, R1, R2: ashes that are not valid are ahead of ties.
func TestWrongFalls(t *testing.T) {
	for _, c := range []struct {
		change func(f *api.Falls)
		e      api.Errno
	}{
		{func(f *api.Falls) { f.Ashes[0].Id, f.Ties[0].A = 0, 7 }, api.ErrAsh}, {func(f *api.Falls) { f.Ashes[1].Mark = 5 }, api.ErrAsh}, {func(f *api.Falls) { f.Ashes[2].Grain[2].Hi = 0 }, api.ErrAsh},
		{func(f *api.Falls) { f.Ties[2].B = 3 }, api.ErrTie}, {func(f *api.Falls) { f.Ashes = nil }, api.ErrTie}, {func(f *api.Falls) { f.Ties = slices.Repeat(f.Ties, 21) }, api.ErrTie},
	} {
		f := falls()
		c.change(&f)
		if text, e := desk.PrintAsh(f); text != "" || e != c.e {
			t.Errorf("%v: %q %d", f, text, e)
		}
		if q, e := desk.AshQuestion(f, 5); tell(q) != tell(api.Question{}) || e != c.e {
			t.Errorf("%v: %v %d", f, q, e)
		}
		if q, e := desk.AshQuestion(f, 100000); tell(q) != tell(api.Question{}) || e != api.ErrArg {
			t.Errorf("%v: %v %d", f, q, e)
		}
	}
}

// P10.2, R1: likewise of events.
func TestWrongEvents(t *testing.T) {
	for text, want := range map[string]struct {
		at int
		e  api.Errno
	}{
		"": {1, api.ErrSay}, "\n\n": {3, api.ErrSay}, "# event 7 1 5 0 1": {2, api.ErrSay}, "event 7 1 5 0 1 2": {1, api.ErrSay}, "\nevents 7 1 5 0 1": {2, api.ErrSay}, "event 7 1 5 0 x": {1, api.ErrSay}, "event 7 1 5 0 1\n\nevent 7 1 5 0 1": {3, api.ErrSay}, "event 0 1 5 0 1\n.": {2, api.ErrSay}, "event 7 1 5 0 01": {1, api.ErrSay}, "event 7 1 5 0 1000000001": {1, api.ErrSay}, "event": {1, api.ErrSay},
		"event 0 1 5 0 1": {0, api.ErrEvent}, "event 7 100 5 0 1": {0, api.ErrEvent}, "event 7 1 2049 0 1": {0, api.ErrEvent}, "event 7 1 -1 0 1": {0, api.ErrEvent}, "event 7 1 5 2 1": {0, api.ErrEvent}, "event 7 1 5 0 1000000000": {0, api.ErrEvent}, "event 7 1 5 -100001 1": {0, api.ErrEvent},
	} {
		if v, at, e := desk.ParseEvent(text); v != (api.Event{}) || at != want.at || e != want.e {
			t.Errorf("%q: %v %d %d", text, v, at, e)
		}
	}
}

// P10.2: a note tells a span if its only line that says something is as it must be, and the claim valid.
func TestNotes(t *testing.T) {
	for text, want := range map[string]api.Span{
		"dated 5 100 110": {B: 5, Lo: 100, Hi: 110}, "\n# x\n  dated  5 -3 -3 \n\n": {B: 5, Lo: -3, Hi: -3}, "dated 2048 -100000 100000": {B: 2048, Lo: -100000, Hi: 100000}, "dated 1 0 0\n": {B: 1},
	} {
		if x, tells := desk.ParseNote(text); x != want || !tells {
			t.Errorf("%q: %v %v", text, x, tells)
		}
	}
	for _, text := range []string{"", "\n", "dated", "dated 5 100", "dated 5 100 110 1", "dated 0 1 1", "dated 2049 1 1", "dated -1 1 1", "dated 5 2 1", "dated 5 1 100001", "dated 5 -100001 1", "dated 5 1 1000000000", "date 5 1 1", "dated 5 01 1", "dated 5 1 +1", "dated 5 1 1\ndated 5 1 1", "dated 5 1 1\nx", "x\ndated 5 1 1", "#dated 5 1 1", "Dated 5 1 1", "dated 5 1 1\r", "dated\t5 1 1"} {
		if x, tells := desk.ParseNote(text); x != (api.Span{}) || tells {
			t.Errorf("%q: %v %v", text, x, tells)
		}
	}
}

// P10.2, R7: texts have at most MaxBody bytes; ErrLong is ahead of all else.
func TestLimitsOfTexts(t *testing.T) {
	for text, parse := range map[string]func(string) (int, api.Errno){
		"join 3 1 2\nx 1 2 50 60\ny 65 67 60 70 80\n": func(s string) (int, api.Errno) { _, at, e := desk.ParseJoin(s); return at, e },
		"ash 1 5 1 9 1 9 1 9\n":                       func(s string) (int, api.Errno) { _, at, e := desk.ParseAsh(s); return at, e },
		"event 7 1 2 0 1\n":                           func(s string) (int, api.Errno) { _, at, e := desk.ParseEvent(s); return at, e },
		"dated 5 1 1\n": func(s string) (int, api.Errno) {
			if _, tells := desk.ParseNote(s); !tells {
				return 0, api.ErrLong
			}
			return 0, api.OK
		},
	} {
		full := text + strings.Repeat(" ", 8000-len(text))
		if at, e := parse(full); at != 0 || e != api.OK {
			t.Error(text, at, e)
		}
		if at, e := parse(full + " "); at != 0 || e != api.ErrLong {
			t.Error(text, at, e)
		}
		if at, e := parse("x" + full); at != 0 || e != api.ErrLong {
			t.Error(text, at, e)
		}
	}
}

// someBeside is valid.
func someBeside(d *rand.Rand) api.Beside {
	piece := func() []int {
		x := make([]int, 1+d.IntN(pick(d, 4, 24)))
		for i := range x {
			x[i] = 1 + d.IntN(pick(d, 3, 100000))
		}
		return x
	}
	cores := d.Perm(32)
	a, c := d.IntN(63), d.IntN(63)
	b, e := a+1+d.IntN(63-a), c+1+d.IntN(63-c)
	j := api.Beside{Rule: api.Rule{Tol: d.IntN(100001), Edits: d.IntN(7), Overlap: 1 + d.IntN(24)}, X: piece(), Y: piece()}
	j.A, j.B, j.C, j.D = 64*cores[0]+a+1, 64*cores[0]+b+1, 64*cores[1]+c+1, 64*cores[1]+e+1
	return j
}

// someFalls are valid.
func someFalls(d *rand.Rand) api.Falls {
	var f api.Falls
	marks := d.Perm(2048)
	id := 0
	for i := range d.IntN(10) {
		id += 1 + d.IntN(pick(d, 2, 11000))
		a := api.Ash{Id: id, Mark: marks[i] + 1}
		for k := range a.Grain {
			hi := d.IntN(10001)
			a.Grain[k] = api.Band{Lo: d.IntN(hi + 1), Hi: hi}
		}
		f.Ashes = append(f.Ashes, a)
	}
	if len(f.Ashes) > 1 {
		for range d.IntN(61) {
			i := d.IntN(len(f.Ashes) - 1)
			f.Ties = append(f.Ties, api.Tie{A: f.Ashes[i].Id, B: f.Ashes[i+1+d.IntN(len(f.Ashes)-1-i)].Id, Same: d.IntN(2) == 0})
		}
	}
	return f
}

// P10.1: what is printed is read as the same, and never longer than MaxBody.
func TestParseOfPrint(t *testing.T) {
	d := dice(2)
	for range 3000 {
		j := someBeside(d)
		text, e := desk.PrintJoin(j)
		if again, at, f := desk.ParseJoin(text); e != api.OK || f != api.OK || at != 0 || tell(again) != tell(j) || len(text) > api.MaxBody {
			t.Fatalf("%v %d: %q: %v %d", j, e, text, again, f)
		}
		f := someFalls(d)
		text, e = desk.PrintAsh(f)
		if again, at, g := desk.ParseAsh(text); e != api.OK || g != api.OK || at != 0 || tell(again) != tell(f) || len(text) > api.MaxBody {
			t.Fatalf("%v %d: %q: %v %d", f, e, text, again, g)
		}
	}
}

// P10.1: Print of what is read is a text of the same.
func FuzzTexts(f *testing.F) {
	for _, l := range texts {
		for _, text := range l {
			f.Add(text)
		}
	}
	f.Fuzz(func(t *testing.T, text string) {
		if j, _, e := desk.ParseJoin(text); e == api.OK {
			printed, e := desk.PrintJoin(j)
			if again, _, f := desk.ParseJoin(printed); e != api.OK || f != api.OK || tell(j) != tell(again) {
				t.Errorf("%q %q %d %d", text, printed, e, f)
			}
		} else if tell(j) != tell(api.Beside{}) {
			t.Error(j)
		}
		if a, _, e := desk.ParseAsh(text); e == api.OK {
			printed, e := desk.PrintAsh(a)
			if again, _, f := desk.ParseAsh(printed); e != api.OK || f != api.OK || tell(a) != tell(again) {
				t.Errorf("%q %q %d %d", text, printed, e, f)
			}
		} else if tell(a) != tell(api.Falls{}) {
			t.Error(a)
		}
		if v, at, e := desk.ParseEvent(text); e != api.OK && (v != (api.Event{}) || at > strings.Count(text, "\n")+2) {
			t.Error(v, at, e)
		}
		if x, tells := desk.ParseNote(text); !tells && x != (api.Span{}) {
			t.Error(x)
		}
	})
}

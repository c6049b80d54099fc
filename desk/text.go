package desk

import (
	"slices"
	"strings"

	"gyttja/api"
	"gyttja/ash"
	"gyttja/lay"
	"gyttja/lines"
	"gyttja/sheet"
	"gyttja/span"
	"gyttja/years"
)

// many is more numbers than the text of an entry has.
const many = api.MaxBody

// said is a line of an entry's text that says something: its number, and its words.
type said struct {
	no    int
	words []string
}

func (l said) isWrong() wrong { return wrong{l.no, api.ErrSay} }

// numbers returns the numbers that stand behind a word. It throws the number of the line, if that has another word, or not so many numbers.
func (l said) numbers(word string, least, most int) []int {
	if l.words[0] != word || !within(len(l.words)-1, least, most) {
		panic(l.isWrong())
	}
	var numbers []int
	for _, w := range l.words[1:] {
		n, ok := numberOf(w)
		if !ok {
			panic(l.isWrong())
		}
		numbers = append(numbers, n)
	}
	return numbers
}

// saidIn returns the lines of a text that say something.
func saidIn(text string) []said {
	if len(text) > api.MaxBody {
		refuse(api.ErrLong)
	}
	var l []said
	for no, words := range lines.Said(text) {
		l = append(l, said{no, words})
	}
	return l
}

// readLines hands the lines of a text that say something to readers, one for each. It throws the number of the first line for which there is no reader, or of the one that is missing.
func readLines(text string, readers ...func(said)) {
	l := saidIn(text)
	for i, x := range l {
		if i == len(readers) {
			panic(x.isWrong())
		}
		readers[i](x)
	}
	if len(l) < len(readers) {
		panic(wrong{lines.Count(text) + 1, api.ErrSay})
	}
}

// checkBeside reports whether what is told of two pieces is valid.
func checkBeside(j api.Beside) api.Errno {
	if e := lay.CheckRule(j.Rule); e != api.OK {
		return e
	}
	if e := lay.CheckPiece(j.X); e != api.OK {
		return e
	}
	if e := lay.CheckPiece(j.Y); e != api.OK {
		return e
	}
	coreX, coreY := coreOf(j.A, j.B), coreOf(j.C, j.D)
	if coreX < 0 || coreY < 0 || coreX == coreY {
		return api.ErrMark
	}
	return api.OK
}

// coreOf is the core of two marks of which the first one is above the second one; below 0 if they are no such marks.
func coreOf(a, b int) int {
	core, _ := sheet.Place(a)
	if other, _ := sheet.Place(b); other != core || a >= b {
		return -1
	}
	return core
}

// ParseJoin reads a text about two pieces.
func ParseJoin(text string) (api.Beside, int, api.Errno) {
	return attempt(func() (j api.Beside) {
		readLines(text,
			func(l said) {
				n := l.numbers("join", 3, 3)
				j.Rule = api.Rule{Tol: n[0], Edits: n[1], Overlap: n[2]}
			},
			func(l said) {
				n := l.numbers("x", 2, many)
				j.A, j.B, j.X = n[0], n[1], n[2:]
			},
			func(l said) {
				n := l.numbers("y", 2, many)
				j.C, j.D, j.Y = n[0], n[1], n[2:]
			})
		refuse(checkBeside(j))
		return j
	})
}

// PrintJoin writes it.
func PrintJoin(j api.Beside) (string, api.Errno) {
	if e := checkBeside(j); e != api.OK {
		return "", e
	}
	r := j.Rule
	x, y := slices.Concat([]int{j.A, j.B}, j.X), slices.Concat([]int{j.C, j.D}, j.Y)
	return "join " + row(r.Tol, r.Edits, r.Overlap) + "\nx " + row(x...) + "\ny " + row(y...) + "\n", api.OK
}

// checkFalls reports whether ashes and ties are valid.
func checkFalls(f api.Falls) api.Errno {
	if e := ash.Check(f.Ashes); e != api.OK {
		return e
	}
	return ash.CheckTies(f.Ashes, f.Ties)
}

// ParseAsh reads a text about ashes.
func ParseAsh(text string) (api.Falls, int, api.Errno) {
	return attempt(func() (f api.Falls) {
		for _, l := range saidIn(text) {
			switch word := l.words[0]; word {
			case "same", "not":
				n := l.numbers(word, 2, 2)
				f.Ties = append(f.Ties, api.Tie{A: n[0], B: n[1], Same: word == "same"})
			default:
				n := l.numbers("ash", 8, 8)
				grain := [3]api.Band{{Lo: n[2], Hi: n[3]}, {Lo: n[4], Hi: n[5]}, {Lo: n[6], Hi: n[7]}}
				f.Ashes = append(f.Ashes, api.Ash{Id: n[0], Mark: n[1], Grain: grain})
			}
		}
		refuse(checkFalls(f))
		return f
	})
}

// PrintAsh writes it.
func PrintAsh(f api.Falls) (string, api.Errno) {
	if e := checkFalls(f); e != api.OK {
		return "", e
	}
	var b strings.Builder
	for _, a := range f.Ashes {
		g := a.Grain
		b.WriteString("ash " + row(a.Id, a.Mark, g[0].Lo, g[0].Hi, g[1].Lo, g[1].Hi, g[2].Lo, g[2].Hi) + "\n")
	}
	for _, t := range f.Ties {
		word := "not "
		if t.Same {
			word = "same "
		}
		b.WriteString(word + row(t.A, t.B) + "\n")
	}
	return b.String(), api.OK
}

// ParseEvent reads a text about an event.
func ParseEvent(text string) (api.Event, int, api.Errno) {
	return attempt(func() (v api.Event) {
		readLines(text, func(l said) {
			n := l.numbers("event", 5, 5)
			v = api.Event{Id: n[0], Kind: n[1], Mark: n[2], Lo: n[3], Hi: n[4]}
		})
		refuse(years.CheckEvent(v))
		return v
	})
}

// ParseNote reads the span that a note tells.
func ParseNote(text string) (api.Span, bool) {
	x, _, e := attempt(func() (x api.Span) {
		readLines(text, func(l said) {
			n := l.numbers("dated", 3, 3)
			x = api.Span{A: 0, B: n[0], Lo: n[1], Hi: n[2]}
		})
		refuse(span.CheckClaim(claimOf(x, 1)))
		return x
	})
	return x, e == api.OK
}

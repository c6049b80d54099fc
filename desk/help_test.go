package desk_test

import (
	"fmt"
	"math"
	"math/rand/v2"
	"slices"
	"strings"

	"gyttja/api"
	"gyttja/desk"
)

const far = api.Far

// extremes are numbers at and beyond all limits.
var extremes = []int{math.MinInt, -far - 1, -far, -1, 0, 1, 2, 3, 7, 8, 12, 63, 64, 99, 100, 2048, 2049, 9999, 10000, 80000, 80001, 99999, 100000, 100001, far, far + 1, math.MaxInt}

func dice(seed uint64) *rand.Rand { return rand.New(rand.NewPCG(seed, 10)) }

// pick is one of several values.
func pick[T any](d *rand.Rand, l ...T) T { return l[d.IntN(len(l))] }

func first[T any](x T, _ api.Errno) T { return x }

func claim(a, b, lo, hi, by int) api.Claim { return api.Claim{A: a, B: b, Lo: lo, Hi: hi, By: by} }

func place(office, seq int) api.Place { return api.Place{Office: office, Seq: seq} }

// base is a base entry of the hour 5.
func base(office, seq, kind int, text string) api.Entry {
	return api.Entry{At: place(office, seq), Kind: kind, Hour: 5, Text: text}
}

// later is an entry of an hour that says something of another one.
func later(office, seq, kind, hour int, of api.Place, text string) api.Entry {
	return api.Entry{At: place(office, seq), Kind: kind, Hour: hour, Of: of, Text: text}
}

// bookOf sorts entries by their places.
func bookOf(l ...api.Entry) api.Book {
	slices.SortFunc(l, func(x, y api.Entry) int { return desk.Source(x.At) - desk.Source(y.At) })
	return api.Book{Entries: l}
}

// Texts of the chapter's examples: the sheet ties the mark 2 to the mark 1, and the note the mark 1 to the datum.
const (
	sheetText = "sheet 1 reader 1 core 0\nmark 0\nyear 50\npair 60 70\nmark 1\n"
	noteText  = "dated 1 100 110"
	eventText = "event 7 1 2 0 1"
	joinText  = "join 0 0 1\nx 1 2 50 60\ny 65 66 60 70\n"
	// openText has two offsets: X is 10, 20, 5 and Y is 30, 5.
	openText = "join 0 1 1\nx 1 2 10 20 5\ny 65 66 30 5\n"
	// ashText has six cases.
	ashText = "ash 1 1 10 20 10 20 10 20\nash 2 2 10 20 10 20 10 20\nash 3 65 10 20 10 20 10 20\nash 4 66 10 20 10 20 10 20\n"
)

// texts are such as entries may have, by their kinds; some of them are refused, or contradict others.
var texts = map[int][]string{
	api.EntSheet: {sheetText, "sheet 2 reader 3 core 1\nmark 0\nslump 4\nmark 1\n", "sheet 3 reader 1 core 0\nmark 0\nyear 1\nmark 1\nyear 5\nmark 2\n", "sheet 4 reader 1 core 0\nmark 2\nmark 1\n", "sheets"},
	api.EntJoin:  {joinText, openText, openText, "join 0 0 2\nx 1 2 50 60\ny 65 66 60 70\n", "join 0 1 1\nx 2 1 10 20 5\ny 65 66 30 5\n", "join 0 1"},
	api.EntAsh:   {ashText, ashText + "same 2 4\n", "ash 1 2 1 9 1 9 1 9\nash 2 66 3 4 3 4 3 4\n", "ash 1 1 1 1 1 1 1 1\nash 2 2 1 1 1 1 1 1\nsame 1 2\n", "ash 1 2 3"},
	api.EntEvent: {eventText, "event 8 2 1 -3 5", "event 9 0 0 7 7", "event 10 0 66 0 0", "event 7 0 65 1 2", "event 7 1 5 0", "event 0 0 0 0 0"},
	api.EntNote:  {noteText, "dated 2 120 130", "dated 65 100 112", "dated 66 5 500", "dated 3 -7 7", "a note", "dated 1 2 1"},
}

// someText is a text for a base entry of that kind, or, rarely, of another one.
func someText(d *rand.Rand, kind int) string {
	if d.IntN(10) == 0 {
		kind = 1 + d.IntN(5)
	}
	return pick(d, texts[kind]...)
}

// kindOf is the kind of the base entry that an entry corrects, directly or not; any kind if there is none.
func kindOf(l []api.Entry, at api.Place) int {
	for range l {
		for _, x := range l {
			if x.At == at && x.Kind <= api.EntNote {
				return x.Kind
			}
			if x.At == at {
				at = x.Of
			}
		}
	}
	return api.EntNote
}

// someBook has entries of some offices at the hours 0 to 9.
func someBook(d *rand.Rand, entries int) api.Book {
	var l []api.Entry
	next := map[int]int{}
	for range entries {
		office := d.IntN(3)
		x := api.Entry{At: place(office, next[office]), Kind: pick(d, 1, 1, 2, 3, 4, 4, 5, 5, 6, 6, 7, 8, 9), Hour: d.IntN(10), Reader: d.IntN(100)}
		next[office] += 1 + d.IntN(2)
		if x.Kind > api.EntNote {
			x.Of = place(d.IntN(3), d.IntN(6))
			if len(l) > 0 && d.IntN(4) > 0 {
				x.Of = pick(d, l...).At
			}
		}
		if x.Kind == api.EntCorrect {
			x.Text = someText(d, kindOf(l, x.Of))
		}
		if x.Kind <= api.EntNote {
			x.Text = someText(d, x.Kind)
		}
		l = append(l, x)
	}
	return bookOf(l...)
}

// tell writes any value so that tests can compare it; a nil list is told as an empty one.
func tell(x any) string { return fmt.Sprintf("%v", x) }

// lined writes lines, each with a line feed.
func lined(l ...string) string {
	if len(l) == 0 {
		return ""
	}
	return strings.Join(l, "\n") + "\n"
}

// command reads a line that is right.
func command(line string) api.Command {
	c, at, e := desk.Parse(line)
	if e != api.OK {
		panic(fmt.Sprint(line, at, e))
	}
	return c
}

// done does the commands of lines, one after the other, and returns the last answer.
func done(d *desk.Desk, lines ...string) string {
	var answer []string
	for _, l := range lines {
		answer = d.Do(command(l))
	}
	return strings.Join(answer, "|")
}

func newDesk(offices int) *desk.Desk { return first(desk.New(offices)) }

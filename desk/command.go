package desk

import (
	"slices"
	"strconv"
	"strings"

	"gyttja/api"
	"gyttja/lines"
)

// mostDigits is how long a number may be.
const mostDigits = 10

// numberOf reads a number of a line, or of the text of an entry.
func numberOf(text string) (n int, ok bool) {
	n, ok = lines.Signed(text, mostDigits)
	return n, ok && isNumber(n)
}

func isNumber(n int) bool { return within(n, -api.Far, api.Far) }

// row writes numbers, parted by spaces.
func row(numbers ...int) string { return strings.Join(digits(numbers...), " ") }

func digits(numbers ...int) []string {
	var l []string
	for _, n := range numbers {
		l = append(l, strconv.Itoa(n))
	}
	return l
}

// What stands behind the numbers of a command.
const (
	nothing = iota
	aText
	somePieces
)

// wording is how the commands of a kind are written: the word, so many numbers, and the rest.
type wording struct {
	kind    int
	word    string
	numbers int
	rest    int
}

var wordings = [...]wording{
	{api.CmdSheet, "sheet", 1, aText},
	{api.CmdJoin, "join", 1, aText},
	{api.CmdAsh, "ash", 1, aText},
	{api.CmdEvent, "event", 1, aText},
	{api.CmdNote, "note", 1, aText},
	{api.CmdCorrect, "correct", 3, aText},
	{api.CmdWithdraw, "withdraw", 3, nothing},
	{api.CmdDoubt, "doubt", 3, nothing},
	{api.CmdTrust, "trust", 3, nothing},
	{api.CmdSync, "sync", 0, nothing},
	{api.CmdPack, "pack", 0, nothing},
	{api.CmdCrash, "crash", 2, nothing},
	{api.CmdSend, "send", 1, nothing},
	{api.CmdBounds, "bounds", 2, nothing},
	{api.CmdValues, "values", 2, nothing},
	{api.CmdWhen, "when", 2, nothing},
	{api.CmdOrder, "order", 2, nothing},
	{api.CmdCount, "count", 3, nothing},
	{api.CmdProve, "prove", 2, nothing},
	{api.CmdConflict, "conflict", 0, nothing},
	{api.CmdLeaves, "leaves", 0, nothing},
	{api.CmdLeft, "left", 0, nothing},
	{api.CmdVoid, "void", 0, nothing},
	{api.CmdStanding, "standing", 0, nothing},
	{api.CmdPlan, "plan", 2, somePieces},
	{api.CmdSince, "since", 3, nothing},
}

// wordingOf returns the wording for which is reports true; it is not ok if there is none.
func wordingOf(is func(wording) bool) (found wording, ok bool) {
	for _, w := range wordings {
		if is(w) {
			return w, true
		}
	}
	return wording{}, false
}

// reader takes the words of a line, one after the other. It throws the place of the first one that is not as it must be.
type reader struct {
	words []word
	end   int // where a word is missing
}

func wrongAt(at int) wrong { return wrong{at, api.ErrLine} }

func (r *reader) next() word {
	if len(r.words) == 0 {
		panic(wrongAt(r.end))
	}
	w := r.words[0]
	r.words = r.words[1:]
	return w
}

func (r *reader) number(lo, hi int) int {
	w := r.next()
	n, ok := numberOf(w.text)
	if !ok || !within(n, lo, hi) {
		panic(wrongAt(w.at))
	}
	return n
}

func (r *reader) wording() wording {
	w := r.next()
	found, ok := wordingOf(func(x wording) bool { return x.word == w.text })
	if !ok {
		panic(wrongAt(w.at))
	}
	return found
}

// text reads a quoted word. Its bytes are those that a text may have.
func (r *reader) text() string {
	w := r.next()
	if w.text[0] != quote || len(w.text)-1 > api.MaxBody {
		panic(wrongAt(w.at))
	}
	return w.text[1:]
}

func (r *reader) piece() api.Piece {
	w := r.next()
	var numbers []int
	for part := range strings.SplitSeq(w.text, ":") {
		n, ok := numberOf(part)
		if !ok || n < 0 {
			panic(wrongAt(w.at))
		}
		numbers = append(numbers, n)
	}
	if len(numbers) != 4 {
		panic(wrongAt(w.at))
	}
	return api.Piece{A: numbers[0], B: numbers[1], Miss: numbers[2], Cost: numbers[3]}
}

func (r *reader) pieces() []api.Piece {
	l := []api.Piece{r.piece()}
	for len(r.words) > 0 && len(l) < api.MaxPieces {
		l = append(l, r.piece())
	}
	return l
}

func (r *reader) finish() {
	if len(r.words) > 0 {
		panic(wrongAt(r.words[0].at))
	}
}

// commandOf reads a line.
func commandOf(line string) api.Command {
	if len(line) <= api.MaxLine && strings.HasPrefix(line, "#") {
		panic(wrongAt(len(line)))
	}
	r := reader{cut(line), len(line)}
	var c api.Command
	c.Office = r.number(0, api.MaxOffices-1)
	c.Hour = r.number(0, api.MaxHour)
	w := r.wording()
	c.Kind = w.kind
	for range w.numbers {
		c.Args = append(c.Args, r.number(-api.Far, api.Far))
	}
	switch w.rest {
	case aText:
		c.Text = r.text()
	case somePieces:
		c.Pieces = r.pieces()
	}
	r.finish()
	return c
}

// Parse reads a line.
func Parse(line string) (api.Command, int, api.Errno) {
	return attempt(func() api.Command { return commandOf(line) })
}

// isRight reports whether a command can be written as a line.
func isRight(c api.Command) bool {
	w, ok := wordingOf(func(x wording) bool { return x.kind == c.Kind })
	if !ok || !within(c.Office, 0, api.MaxOffices-1) || !within(c.Hour, 0, api.MaxHour) {
		return false
	}
	return len(c.Args) == w.numbers && areNumbers(c.Args) && hasText(c, w) && hasPieces(c, w)
}

func areNumbers(l []int) bool {
	return !slices.ContainsFunc(l, func(n int) bool { return !isNumber(n) })
}

func hasText(c api.Command, w wording) bool {
	if w.rest != aText {
		return c.Text == ""
	}
	return len(c.Text) <= api.MaxBody && isText(c.Text)
}

func hasPieces(c api.Command, w wording) bool {
	if w.rest != somePieces {
		return len(c.Pieces) == 0
	}
	isWrong := func(p api.Piece) bool {
		return min(p.A, p.B, p.Miss, p.Cost) < 0 || max(p.A, p.B, p.Miss, p.Cost) > api.Far
	}
	return within(len(c.Pieces), 1, api.MaxPieces) && !slices.ContainsFunc(c.Pieces, isWrong)
}

// Print writes a command as a line.
func Print(c api.Command) (string, api.Errno) {
	if !isRight(c) {
		return "", api.ErrLine
	}
	w, _ := wordingOf(func(x wording) bool { return x.kind == c.Kind })
	words := append(digits(c.Office, c.Hour), w.word)
	words = append(words, digits(c.Args...)...)
	if w.rest == aText {
		words = append(words, Quote(c.Text))
	}
	for _, p := range c.Pieces {
		words = append(words, strings.Join(digits(p.A, p.B, p.Miss, p.Cost), ":"))
	}
	line := strings.Join(words, " ")
	if len(line) > api.MaxLine {
		return "", api.ErrLong
	}
	return line, api.OK
}

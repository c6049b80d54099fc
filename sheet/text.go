package sheet

import (
	"strconv"
	"strings"

	"gyttja/api"
	"gyttja/lines"
)

// mostDigits is how long a number in a text may be.
const mostDigits = 6

// wording is how rows of a kind are written: a word, and so many numbers.
type wording struct {
	word    string
	numbers int
}

// wordings has the wording of each kind of rows; 0 is no kind.
var wordings = [...]wording{{}, {"mark", 1}, {"year", 1}, {"pair", 2}, {"slump", 1}, {"bed", 1}, {"gap", 2}}

// Print writes a sheet as a text.
func Print(s api.Sheet) (string, api.Errno) {
	if e := Check(s); e != api.OK {
		return "", e
	}
	var b strings.Builder
	b.WriteString("sheet " + strconv.Itoa(s.Id) + " reader " + strconv.Itoa(s.Reader) + " core " + strconv.Itoa(s.Core) + "\n")
	for _, r := range s.Rows {
		w := wordings[r.Kind]
		b.WriteString(w.word + " " + strconv.Itoa(r.N))
		if w.numbers == 2 {
			b.WriteString(" " + strconv.Itoa(r.M))
		}
		b.WriteString("\n")
	}
	return b.String(), api.OK
}

// wrongLine is what is thrown for a line that is not as it must be: its number.
type wrongLine int

// Parse reads a sheet's text.
func Parse(text string) (s api.Sheet, at int, e api.Errno) {
	defer func() {
		if no, ok := recover().(wrongLine); ok {
			s, at, e = api.Sheet{}, int(no), api.ErrText
		}
	}()
	if len(text) > api.MaxSheet {
		return api.Sheet{}, 0, api.ErrLong
	}
	s = parseLines(text)
	if e = Check(s); e != api.OK {
		return api.Sheet{}, 0, e
	}
	return s, 0, api.OK
}

// parseLines reads the lines of a text. It throws the number of the first wrong one.
func parseLines(text string) api.Sheet {
	var s api.Sheet
	begun := false
	for no, words := range lines.Said(text) {
		if begun {
			s.Rows = append(s.Rows, parseRow(no, words))
		} else {
			s, begun = parseHead(no, words), true
		}
	}
	if !begun {
		panic(wrongLine(lines.Count(text) + 1))
	}
	return s
}

func parseHead(no int, words []string) api.Sheet {
	if len(words) != 6 || words[0] != "sheet" || words[2] != "reader" || words[4] != "core" {
		panic(wrongLine(no))
	}
	return api.Sheet{Id: parseNumber(no, words[1]), Reader: parseNumber(no, words[3]), Core: parseNumber(no, words[5])}
}

func parseRow(no int, words []string) api.Row {
	for kind, w := range wordings {
		if w.word != words[0] || len(words) != w.numbers+1 {
			continue
		}
		r := api.Row{Kind: kind, N: parseNumber(no, words[1])}
		if w.numbers == 2 {
			r.M = parseNumber(no, words[2])
		}
		return r
	}
	panic(wrongLine(no))
}

func parseNumber(no int, word string) int {
	n, ok := lines.Number(word, mostDigits)
	if !ok {
		panic(wrongLine(no))
	}
	return n
}

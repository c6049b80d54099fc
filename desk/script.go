package desk

import (
	"slices"
	"strings"

	"gyttja/api"
	"gyttja/lines"
	"gyttja/proof"
)

// script returns the commands of a text. It throws the number of the first line that is none.
func script(text string) []api.Command {
	if len(text) > api.MaxScript {
		refuse(api.ErrLong)
	}
	saying := 0
	for range lines.Saying(text) {
		saying++
	}
	if saying > api.MaxLines {
		refuse(api.ErrLong)
	}
	var commands []api.Command
	for no, l := range lines.Saying(text) {
		c, _, e := Parse(l)
		if e != api.OK {
			panic(wrong{no, e})
		}
		commands = append(commands, c)
	}
	return commands
}

// Run runs a script.
func Run(text string) (string, int, api.Errno) {
	return attempt(func() string {
		commands := script(text)
		d := sure(New(api.DeskOffices))
		var b strings.Builder
		for _, c := range commands {
			b.WriteString(textOf(d.Do(c)))
		}
		return b.String()
	})
}

// textOf writes lines, each with a line feed.
func textOf(answer []string) string {
	var b strings.Builder
	for _, l := range answer {
		b.WriteString(l + "\n")
	}
	return b.String()
}

// auditor goes through the lines that were told.
type auditor struct {
	told []string
	done int
}

// isWrong is what is thrown of the first line that is not audited yet, or is missing.
func (a *auditor) isWrong() wrong { return wrong{a.done + 1, api.ErrTold} }

// expect audits lines that must be told as they are due.
func (a *auditor) expect(due []string) {
	for _, l := range due {
		if a.done == len(a.told) || a.told[a.done] != l {
			panic(a.isWrong())
		}
		a.done++
	}
}

// expectProof audits lines that must be a proof, in a world, of what a due one shows.
func (a *auditor) expectProof(due []string, w api.World) {
	left := a.told[a.done:]
	size := min(1, len(left))
	for size < len(left) && isOfTree(left[size]) {
		size++
	}
	shown, _, _ := proof.Parse(textOf(due))
	if !isProof(textOf(left[:size]), shown, w) {
		panic(a.isWrong())
	}
	a.done += size
}

// isOfTree reports whether a line belongs to the proof that is told ahead of it.
func isOfTree(l string) bool { return strings.HasPrefix(l, "ask ") || strings.HasPrefix(l, "end") }

// isProof reports whether a text is a proof of what another one shows.
func isProof(text string, shown api.Proof, w api.World) bool {
	p, _, e := proof.Parse(text)
	if e != api.OK || p.A != shown.A || p.B != shown.B || p.Most != shown.Most {
		return false
	}
	// A text with other spaces, or with lines that say nothing, is not told as it must be.
	if printed, e := proof.Print(p); e != api.OK || printed != text {
		return false
	}
	return proof.Check(w, p) == api.OK
}

// finish audits that all lines were due, and that the last one is whole.
func (a *auditor) finish(told string) {
	if a.done < len(a.told) {
		panic(a.isWrong())
	}
	if told != "" && !strings.HasSuffix(told, "\n") {
		panic(wrong{len(a.told), api.ErrTold})
	}
}

// Audit checks what was told.
func Audit(text, told string) (int, api.Errno) {
	_, at, e := attempt(func() int {
		commands := script(text)
		d := sure(New(api.DeskOffices))
		a := auditor{told: lines.Of(told)}
		for _, c := range commands {
			due := d.Do(c)
			if c.Kind == api.CmdProve && !isError(due) {
				a.expectProof(due, Know(d.Book(c.Office), c.Hour).World)
			} else {
				a.expect(due)
			}
		}
		a.finish(told)
		return a.done
	})
	return at, e
}

// isError reports whether an answer tells that its command was refused.
func isError(answer []string) bool {
	return slices.ContainsFunc(answer, func(l string) bool { return strings.HasPrefix(l, "error ") })
}

package proof

import (
	"slices"
	"strconv"
	"strings"

	"gyttja/api"
	"gyttja/lines"
)

// mostDigits is how long a number in a text may be.
const mostDigits = 10

// canHead reports whether the marks and the bound of a proof can be written.
func canHead(p api.Proof) bool {
	return within(p.A, 0, api.MaxMark) && within(p.B, 0, api.MaxMark) && within(p.Most, -api.Far, api.Far)
}

// canFollow reports whether a node can be written.
func canFollow(n api.Node) bool {
	if n.Question != ended {
		return within(n.Question, 0, api.MaxQuestions-1) && len(n.Chain) == 0
	}
	return len(n.Chain) <= api.MaxClaims &&
		!slices.ContainsFunc(n.Chain, func(s api.Step) bool { return !within(s.Claim, 0, api.MaxClaims-1) })
}

// Print writes a proof as a text.
func Print(p api.Proof) (string, api.Errno) {
	cannot := func(n api.Node) bool { return !canFollow(n) }
	if !canHead(p) || len(p.Nodes) > api.MaxNodes || slices.ContainsFunc(p.Nodes, cannot) {
		return "", api.ErrForm
	}
	var b strings.Builder
	b.WriteString("proof " + strconv.Itoa(p.A) + " " + strconv.Itoa(p.B) + " " + strconv.Itoa(p.Most) + "\n")
	for _, n := range p.Nodes {
		printNode(&b, n)
	}
	if b.Len() > api.MaxProof {
		return "", api.ErrLong
	}
	return b.String(), api.OK
}

func printNode(b *strings.Builder, n api.Node) {
	if n.Question == ended {
		b.WriteString("end")
	} else {
		b.WriteString("ask " + strconv.Itoa(n.Question))
	}
	for _, s := range n.Chain {
		b.WriteString(" " + strconv.Itoa(s.Claim))
		if s.Back {
			b.WriteString("-")
		} else {
			b.WriteString("+")
		}
	}
	b.WriteString("\n")
}

// wrongLine is what is thrown for a line that is not as it must be: its number.
type wrongLine int

// Parse reads a proof's text.
func Parse(text string) (p api.Proof, at int, e api.Errno) {
	defer func() {
		if no, ok := recover().(wrongLine); ok {
			p, at, e = api.Proof{}, int(no), api.ErrForm
		}
	}()
	if len(text) > api.MaxProof {
		return api.Proof{}, 0, api.ErrLong
	}
	return parseLines(text), 0, api.OK
}

// parseLines reads the lines of a text. It throws the number of the first wrong one.
func parseLines(text string) api.Proof {
	var p api.Proof
	begun := false
	for no, words := range lines.Said(text) {
		switch {
		case !begun:
			p, begun = parseHead(no, words), true
		case len(p.Nodes) < api.MaxNodes:
			p.Nodes = append(p.Nodes, parseNode(no, words))
		default:
			panic(wrongLine(no))
		}
	}
	if !begun {
		panic(wrongLine(lines.Count(text) + 1))
	}
	return p
}

func parseHead(no int, words []string) api.Proof {
	if len(words) != 4 || words[0] != "proof" {
		panic(wrongLine(no))
	}
	most, ok := lines.Signed(words[3], mostDigits)
	p := api.Proof{A: parseNumber(no, words[1]), B: parseNumber(no, words[2]), Most: most}
	if !ok || !canHead(p) {
		panic(wrongLine(no))
	}
	return p
}

func parseNode(no int, words []string) api.Node {
	n := api.Node{Question: ended}
	switch {
	case words[0] == "ask" && len(words) == 2:
		n.Question = parseNumber(no, words[1])
	case words[0] == "end":
		for _, word := range words[1:] {
			n.Chain = append(n.Chain, parseStep(no, word))
		}
	default:
		panic(wrongLine(no))
	}
	if !canFollow(n) {
		panic(wrongLine(no))
	}
	return n
}

func parseStep(no int, word string) api.Step {
	last := len(word) - 1
	claim, way := word[:last], word[last:]
	if way != "+" && way != "-" {
		panic(wrongLine(no))
	}
	return api.Step{Claim: parseNumber(no, claim), Back: way == "-"}
}

func parseNumber(no int, word string) int {
	n, ok := lines.Number(word, mostDigits)
	if !ok {
		panic(wrongLine(no))
	}
	return n
}

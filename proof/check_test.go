package proof_test

import (
	"math"
	"slices"
	"strings"
	"testing"

	"gyttja/api"
	"gyttja/proof"
)

// P7.1: the chapter's examples of checks, and others like them.
func TestCheck(t *testing.T) {
	for _, c := range []struct {
		p api.Proof
		e api.Errno
	}{
		{proofOf(0, 6, 21, "ask 0; end 0+ 2+; end 0+ 2+"), api.OK},
		{proofOf(0, 6, 22, "ask 0; end 0+ 2+; end 0+ 2+"), api.OK},
		{proofOf(0, 6, math.MaxInt, "ask 0; end 0+ 2+; end 0+ 2+"), api.OK},
		{proofOf(0, 6, 20, "ask 0; end 0+ 2+; end 0+ 2+"), api.ErrOpen},
		{proofOf(0, 6, 15, "ask 0; end 0+ 2+; end 0+ 2+"), api.ErrOpen}, // the second choice alone breaks it
		{proofOf(0, 6, math.MinInt, "ask 0; end 0+ 2+; end 0+ 2+"), api.ErrOpen},
		{proofOf(6, 0, -13, "ask 0; end 2- 0-; end 2- 0-"), api.OK},
		{proofOf(6, 0, -14, "ask 0; end 2- 0-; end 2- 0-"), api.ErrOpen},
		{proofOf(6, 0, 99, "ask 0; end 0+ 2+; end 0+ 2+"), api.ErrOpen}, // from 0 to 6
		{proofOf(0, 5, 12, "end 0+"), api.OK},
		{proofOf(0, 5, 12, "ask 1; end 0+; end 0+"), api.OK},
		{proofOf(0, 7, 22, "ask 0; end 0+ 2+ 1+; end 0+ 2+ 1+"), api.OK},
		// The claims on the way stand in the order of the way, behind those of the world.
		{proofOf(0, 6, 21, "ask 0; end 0+ 2+; ask 1; end 0+ 2+; end 2+ 2- 0+ 2+"), api.ErrOpen},
		{proofOf(0, 6, 21, "ask 0; end 0+ 2+; ask 1; end 0+ 2+; end 0+ 2+"), api.OK},
		{proofOf(0, 6, 21, "ask 1; ask 0; end 0+ 2+; end 0+ 2+; ask 0; end 0+ 3+; end 0+ 3+"), api.OK},
		{proofOf(0, 6, 21, "ask 1; ask 0; end 0+ 2+; end 0+ 2+; ask 0; end 0+ 2+; end 0+ 2+"), api.ErrOpen},
		{proofOf(0, 6, 21, "ask 0; ask 1; end 0+ 2+; end 0+ 2+; ask 1; end 0+ 2+; end 0+ 2+ 3- 3+ 2- 2+"), api.ErrOpen},
		// Where a chain contradicts, any bound is shown.
		{proofOf(0, 6, 21, "ask 1; ask 0; end 0+ 2+; end 0+ 2+; ask 0; end 2- 0+ 3+; end 0+ 3+ 2-"), api.OK},
		{proofOf(0, 7, 22, "ask 1; ask 0; end 0+ 2+ 1+; end 0+ 2+ 1+; ask 0; end 2- 0+ 3+; end 0+ 3+ 2-"), api.OK},
		{proofOf(0, 6, 40, "ask 1; ask 0; end 0+ 2+; end 0+ 2+; end 2+"), api.OK},
		// A chain that begins and ends at one mark shows no more than the empty one, unless it contradicts.
		{proofOf(0, 0, 2, "end 0+ 0-"), api.OK},
		{proofOf(0, 0, 1, "end 0+ 0-"), api.ErrOpen},
		{proofOf(5, 5, 2, "end 0+ 0-"), api.ErrOpen},
		{proofOf(0, 0, 0, "end"), api.OK},
		{proofOf(7, 7, 5, "ask 0; end; end"), api.OK},
		{proofOf(0, 0, -1, "end"), api.ErrOpen},
		{proofOf(0, 5, 99, "end"), api.ErrOpen},
	} {
		if e := proof.Check(example(), c.p); e != c.e {
			t.Error(c.p.A, c.p.B, c.p.Most, tell(c.p.Nodes), e)
		}
	}
}

// P7.1: which lists of nodes are a tree.
func TestTrees(t *testing.T) {
	asks := func(question int) []api.Node { return []api.Node{{Question: question}, {Question: -1}, {Question: -1}} }
	asking := nodes("ask 0; end; end")
	asking[0].Chain = []api.Step{{Claim: 0}}
	empty := nodes("ask 0; end; end")
	empty[0].Chain, empty[1].Chain = []api.Step{}, []api.Step{}
	for name, c := range map[string]struct {
		l     []api.Node
		depth int // -1: no tree
	}{
		"nil":                              {nil, -1},
		"no nodes":                         {[]api.Node{}, -1},
		"an end":                           {nodes("end"), 0},
		"two ends":                         {nodes("end; end"), -1},
		"a question":                       {nodes("ask 0"), -1},
		"a tree is missing":                {nodes("ask 0; end"), -1},
		"an end is left over":              {nodes("ask 0; end; end; end"), -1},
		"a question is left over":          {nodes("end; ask 0; end; end"), -1},
		"one question":                     {nodes("ask 0; end; end"), 1},
		"the other one":                    {nodes("ask 1; end; end"), 1},
		"both, on one way":                 {nodes("ask 1; end; ask 0; end; end"), 2},
		"both, on the first way":           {nodes("ask 0; ask 1; end; end; end"), 2},
		"one, below the other one, twice":  {nodes("ask 1; ask 0; end; end; ask 0; end; end"), 2},
		"a tree is missing below":          {nodes("ask 1; ask 0; end; end; ask 0; end"), -1},
		"asked again":                      {nodes("ask 0; ask 0; end; end; end"), -1},
		"asked again, further below":       {nodes("ask 0; end; ask 1; end; ask 0; end; end"), -1},
		"a question that there is not":     {asks(2), -1},
		"a question less than an end":      {asks(-2), -1},
		"the least number":                 {asks(math.MinInt), -1},
		"the greatest number":              {asks(math.MaxInt), -1},
		"a question that has a chain":      {asking, -1},
		"a question that has an empty one": {empty, 1},
		"steps along claims there are not": {nodes("ask 0; end 99+ -5-; end 400+"), 1},
	} {
		due, none := api.OK, api.ErrOpen
		if c.depth == -1 {
			due, none = api.ErrProof, api.ErrProof
		}
		if name == "steps along claims there are not" {
			due = api.ErrOpen
		}
		p := api.Proof{A: 7, B: 7, Most: 3, Nodes: c.l}
		if e := proof.Check(example(), p); e != due {
			t.Error("Check", name, e)
		}
		if e := proof.CheckNone(example(), c.l); e != none {
			t.Error("CheckNone", name, e)
		}
		if e := proof.CheckNot(example(), 7, 7, 3, c.l); e != due {
			t.Error("CheckNot", name, e)
		}
		if e := proof.CheckOlder(example(), api.Event{Id: 1, Mark: 7, Lo: 5, Hi: 9}, api.Event{Id: 2, Mark: 7, Lo: -4, Hi: 1}, p); e != due {
			t.Error("CheckOlder", name, e)
		}
		if due != api.ErrOpen {
			if _, e := proof.Sources(example(), c.l); e != due {
				t.Error("Sources", name, e)
			}
		}
		if n := proof.Depth(example(), c.l); n != c.depth {
			t.Error("Depth", name, n)
		}
	}
}

// P7.1: a question has as many trees as choices, be it one, or one without claims.
func TestTreesOfOtherWorlds(t *testing.T) {
	w := loose()
	w.Questions = append(w.Questions, question(4, nil))
	for text, want := range map[string]int{
		"ask 1; end; end; end": 1, "ask 1; end; end": -1, "ask 2; end": 1, "ask 2; end; end": -1, "ask 2; ask 2; end": -1,
		"ask 0; ask 1; ask 2; end; end; end; ask 2; end":                         3,
		"ask 1; ask 2; ask 0; end; end; ask 0; end; ask 2; end; ask 0; end; end": 3,
		"ask 3; end": -1,
	} {
		if n := proof.Depth(w, nodes(text)); n != want {
			t.Error(text, n)
		}
	}
}

// loops is a chain of so many steps that goes along the claim 0 of the example and back.
func loops(steps int) string {
	return "end" + strings.Repeat(" 0+ 0-", steps/2) + strings.Repeat(" 0+", steps%2)
}

// P7.1: chains of the example that are none, or at the limit of steps.
func TestChains(t *testing.T) {
	for _, c := range []struct {
		p api.Proof
		e api.Errno
	}{
		{proofOf(0, 5, 1000, "end 2+"), api.ErrOpen}, // there are but two claims
		{proofOf(0, 5, 1000, "end 0+ 2+"), api.ErrOpen},
		{proofOf(0, 5, 1000, "end -1+"), api.ErrOpen},
		{proofOf(0, 5, 1000, "end 0+ -1+"), api.ErrOpen},
		{proofOf(0, 5, 1000, "end 0+ 1+"), api.ErrOpen},
		{proofOf(0, 5, 1000, "end 0-"), api.ErrOpen},
		{proofOf(0, 5, 1000, "end 0+ 0+"), api.ErrOpen},
		{proofOf(0, 5, 1000, "ask 1; end 0+; end 2+ 0- 0+"), api.ErrOpen},
		{proofOf(0, 6, 1000, "ask 1; end 2+; end 2+"), api.ErrOpen}, // the first choice has no claim
		{proofOf(0, 6, 1000, "ask 1; ask 0; end 0+ 2+; end 0+ 2+; end 2+"), api.OK},
		{proofOf(0, 5, 12+199*2, loops(399)), api.OK},
		{proofOf(0, 5, 11+199*2, loops(399)), api.ErrOpen},
		{proofOf(0, 0, 400, loops(400)), api.OK},
		{proofOf(0, 0, 399, loops(400)), api.ErrOpen},
		{proofOf(0, 5, 12+200*2, loops(401)), api.ErrOpen}, // too many steps
		{proofOf(0, 5, 99999, loops(401)), api.ErrOpen},
		{proofOf(0, 0, 99999, loops(402)), api.ErrOpen},
	} {
		if e := proof.Check(example(), c.p); e != c.e {
			t.Error(c.p, e)
		}
	}
	// Of a chain that contradicts and is too long, the same.
	w := example()
	w.Claims = append(w.Claims, claim(0, 5, 0, 1, 1))
	around := " 2+ 0-" // 1 - 10
	for steps, want := range map[int]api.Errno{0: api.ErrOpen, 2: api.OK, 400: api.OK, 402: api.ErrOpen} {
		l := nodes("end" + strings.Repeat(around, steps/2))
		if e := proof.CheckNone(w, l); e != want {
			t.Error(steps, e)
		}
		if e := proof.CheckNot(w, 0, 6, 99, l); e != want {
			t.Error(steps, e)
		}
		if e := proof.Check(w, api.Proof{A: 6, B: 7, Most: -9, Nodes: l}); e != want {
			t.Error(steps, e)
		}
	}
}

// wide has questions of so many choices, each without claims but the last one.
func wide(choices ...int) api.World {
	w := api.World{Claims: one(1, 2, 3, 4, 1)}
	for i, n := range choices {
		l := make([][]api.Claim, n)
		l[n-1] = one(1, 2, 3, 4, i+2)
		w.Questions = append(w.Questions, question(i+2, l...))
	}
	return w
}

// filled is a tree of at most so many nodes that asks the questions in their order.
func filled(w api.World, at int, room *int) []api.Node {
	if at == len(w.Questions) || len(w.Questions[at].Choices) > *room {
		return nodes("end")
	}
	l := nodes("ask " + string(rune('0'+at)))
	*room -= len(w.Questions[at].Choices)
	for range w.Questions[at].Choices {
		l = append(l, filled(w, at+1, room)...)
	}
	return l
}

// P7.1: a tree has up to 4000 nodes; more of them are told ahead of what is no tree.
func TestMostNodes(t *testing.T) {
	w := wide(60, 5, 5, 2, 1)
	room := 3999
	l := filled(w, 0, &room)
	if len(l) != 4000 {
		t.Fatal(len(l))
	}
	long := append(slices.Clone(l), nodes("end")...)
	for _, c := range []struct {
		l    []api.Node
		e    api.Errno
		none api.Errno
	}{
		{l, api.OK, api.ErrOpen}, {long, api.ErrLong, api.ErrLong}, {long[1:], api.ErrProof, api.ErrProof}, {l[1:], api.ErrProof, api.ErrProof},
		{slices.Repeat(nodes("ask 9"), 4001), api.ErrLong, api.ErrLong}, {slices.Repeat(nodes("ask 9"), 4000), api.ErrProof, api.ErrProof},
	} {
		p := api.Proof{A: 1, B: 1, Nodes: c.l}
		if e := proof.Check(w, p); e != c.e {
			t.Error(len(c.l), e)
		}
		if e := proof.CheckNone(w, c.l); e != c.none {
			t.Error(len(c.l), e)
		}
		if e := proof.CheckNot(w, 1, 1, 5, c.l); e != c.e {
			t.Error(len(c.l), e)
		}
		if by, e := proof.Sources(w, c.l); e != c.e || (len(by) > 0) != (e == api.OK) {
			t.Error(len(c.l), by, e)
		}
		if n := proof.Depth(w, c.l); n != map[bool]int{true: 5, false: -1}[c.e == api.OK] {
			t.Error(len(c.l), n)
		}
	}
	if p, e := proof.Trim(w, api.Proof{A: 1, B: 1, Nodes: l}); e != api.OK || tell(p.Nodes) != "end" {
		t.Error(tell(p.Nodes), e)
	}
}

// P7.1: nodes that show that there is no chronology.
func TestCheckNone(t *testing.T) {
	around := "end 0+ 3+ 2-" // 12 + 3 - 16, but 12 + 9 - 16 with the second choice of the first question
	for text, want := range map[string]api.Errno{
		"ask 0; " + around + "; end 2+ 3- 0-":                   api.OK, // 17 - 8 - 10
		"ask 0; " + around + "; " + around:                      api.ErrOpen,
		"ask 0; " + around + "; end":                            api.ErrOpen,
		"ask 0; " + around:                                      api.ErrProof,
		"ask 0; end 3+ 2- 0+; end 3- 0- 2+":                     api.OK,
		"ask 0; ask 1; " + around + "; end 2+ 4-; end 2+ 3- 0-": api.OK, // 17 - 30
		"ask 0; end 0+ 3+; end 0+ 3+":                           api.ErrOpen,
		"end 0+ 0-":                                             api.ErrOpen,
		"":                                                      api.ErrProof,
	} {
		var l []api.Node
		if text != "" {
			l = nodes(text)
		}
		if e := proof.CheckNone(broken(), l); e != want {
			t.Error(text, e)
		}
		if want == api.OK {
			if e := proof.CheckNone(example(), l); e != api.ErrOpen {
				t.Error(text, e)
			}
		}
	}
}

// P7.1: nodes that show that a number of years is none.
func TestCheckNot(t *testing.T) {
	over, under := "ask 0; end 0+ 2+; end 0+ 2+", "ask 0; end 2- 0-; end 2- 0-"
	between := "ask 0; end 0+ 2+; end 2- 0-" // at most 15, or at least 18
	for _, c := range []struct {
		a, b, years int
		text        string
		e           api.Errno
	}{
		{0, 6, 30, over, api.OK}, {0, 6, 22, over, api.OK}, {0, 6, 21, over, api.ErrOpen}, {0, 6, far, over, api.OK}, {0, 6, -far, over, api.ErrOpen},
		{0, 6, 12, under, api.OK}, {0, 6, 13, under, api.ErrOpen}, {0, 6, -far, under, api.OK}, {0, 6, far, under, api.ErrOpen},
		{0, 6, 15, between, api.ErrOpen}, {0, 6, 16, between, api.OK}, {0, 6, 17, between, api.OK}, {0, 6, 18, between, api.ErrOpen},
		{6, 0, -30, over, api.OK}, {6, 0, -21, over, api.ErrOpen}, {6, 0, 30, over, api.ErrOpen}, {6, 0, -12, under, api.OK}, {6, 0, -16, between, api.OK}, {6, 0, 16, between, api.ErrOpen},
		{0, 6, far + 1, over, api.ErrArg}, {0, 6, -far - 1, under, api.ErrArg}, {0, 6, math.MaxInt, over, api.ErrArg}, {0, 6, math.MinInt, under, api.ErrArg}, {0, 6, far + 1, "ask 9", api.ErrArg},
		{0, 6, 99, "ask 0; end 0+ 2+", api.ErrProof}, {0, 6, 99, "end 0+ 0-", api.ErrOpen},
		{0, 3, far + 1, over, api.ErrMark}, {3, 0, 1, "ask 9", api.ErrMark}, {-1, 0, 1, over, api.ErrMark}, {0, 2049, 1, over, api.ErrMark},
		{5, 5, 0, "end", api.ErrOpen}, {5, 5, 1, "end", api.OK}, {5, 5, -1, "end", api.OK}, {5, 5, far, "end", api.OK}, {5, 6, 1, "end", api.ErrOpen},
		{5, 5, 3, "end 0- 0+", api.OK}, {5, 5, 2, "end 0- 0+", api.ErrOpen}, {5, 5, -2, "end 0- 0+", api.ErrOpen}, {5, 5, -3, "end 0- 0+", api.OK},
	} {
		if e := proof.CheckNot(example(), c.a, c.b, c.years, nodes(c.text)); e != c.e {
			t.Error(c, e)
		}
	}
}

// P7.1: proofs that one event is older than another one.
func TestCheckOlder(t *testing.T) {
	v, u := api.Event{Id: 1, Mark: 6, Lo: 0, Hi: 1}, api.Event{Id: 2, Mark: 0, Lo: -4, Hi: 3}
	later := api.Event{Id: 3, Mark: 0, Lo: -4, Hi: 12}
	const text = "ask 0; end 2- 0-; end 2- 0-" // 0 lies at most -13 years below 6
	bad := []api.Event{{}, {Id: 1, Kind: 100, Mark: 6}, {Id: 1, Mark: 2049}, {Id: 1, Mark: 6, Lo: 1}, {Id: 1, Mark: 6, Lo: math.MinInt, Hi: math.MaxInt}}
	for _, c := range []struct {
		v, u api.Event
		p    api.Proof
		e    api.Errno
	}{
		{v, u, proofOf(6, 0, -13, text), api.OK},
		{v, u, proofOf(6, 0, -4, text), api.OK}, // 0 - 3 - 1
		{v, u, proofOf(6, 0, -3, text), api.ErrOpen},
		{v, later, proofOf(6, 0, -13, text), api.OK}, // 0 - 12 - 1
		{v, later, proofOf(6, 0, -12, text), api.ErrOpen},
		{u, v, proofOf(6, 0, -13, text), api.ErrProof},
		{v, v, proofOf(6, 0, -13, text), api.ErrProof},
		{u, u, proofOf(6, 0, -13, text), api.ErrProof},
		{u, u, proofOf(6, 0, 99, text), api.ErrProof},
		{v, u, proofOf(6, 0, -14, text), api.ErrOpen},
		{u, v, proofOf(6, 0, -14, text), api.ErrOpen}, // the error of Check is ahead of that of the marks
		{v, u, proofOf(6, 0, -13, "ask 0"), api.ErrProof},
		{v, u, proofOf(6, 1, -13, text), api.ErrMark},
		{api.Event{Id: 1, Mark: 6, Lo: 5, Hi: 5}, api.Event{Id: 1, Mark: 6, Lo: 3, Hi: 4}, proofOf(6, 6, 0, "end"), api.OK},
		{api.Event{Id: 1, Mark: 6, Lo: 4, Hi: 9}, api.Event{Id: 1, Mark: 6, Lo: 3, Hi: 4}, proofOf(6, 6, 0, "end"), api.ErrOpen},
	} {
		if e := proof.CheckOlder(example(), c.v, c.u, c.p); e != c.e {
			t.Error(c, e)
		}
		for _, event := range bad {
			for _, w := range []api.World{example(), badWorlds()[0].w} {
				if e := proof.CheckOlder(w, event, c.u, c.p); e != api.ErrEvent {
					t.Error(event, e)
				}
				if e := proof.CheckOlder(w, c.v, event, c.p); e != api.ErrEvent {
					t.Error(event, e)
				}
			}
		}
	}
}

// P7.2, P3: a check accepts just what the chapter says, and no bound that some chronology breaks.
func TestChecksAreSound(t *testing.T) {
	d := dice(71)
	accepted := map[string]int{}
	for range 6000 {
		w := someWorld(d)
		a, b := someMark(d), someMark(d)
		l := someNodes(d, w, a, b)
		if d.IntN(2) == 0 {
			l = altered(d, l)
		}
		for n := -9; n <= 9; n++ {
			p := api.Proof{A: a, B: b, Most: n, Nodes: l}
			e := proof.Check(w, p)
			if e != verdict(w, l, func(claims []api.Claim, chain []api.Step) bool { return shows(claims, chain, a, b, n) }) {
				t.Fatal(w, p, e)
			}
			if e == api.OK {
				accepted["Check"]++
				if !isBound(w, a, b, n) {
					t.Fatal(w, p)
				}
			}
			e = proof.CheckNot(w, a, b, n, l)
			if e != verdict(w, l, func(claims []api.Claim, chain []api.Step) bool {
				return shows(claims, chain, a, b, n-1) || shows(claims, chain, b, a, -n-1)
			}) {
				t.Fatal(w, p, e)
			}
			if e == api.OK {
				accepted["CheckNot"]++
				if has(w, a, b, n) {
					t.Fatal(w, p)
				}
			}
		}
		e := proof.CheckNone(w, l)
		if e != verdict(w, l, func([]api.Claim, []api.Step) bool { return false }) {
			t.Fatal(w, l, e)
		}
		if e == api.OK {
			accepted["CheckNone"]++
			if len(truth(w, a, b)) > 0 {
				t.Fatal(w, l)
			}
		}
	}
	if accepted["Check"] < 5000 || accepted["CheckNot"] < 2000 || accepted["CheckNone"] < 50 {
		t.Error(accepted)
	}
}

package proof_test

import (
	"math"
	"slices"
	"testing"

	"gyttja/api"
	"gyttja/proof"
)

// tangle has questions that are needed or not, by the choice: that of 4 has a choice of two claims, which stand ahead of those of others.
func tangle() api.World {
	return api.World{
		Claims: one(0, 1, 1, 2, 1),
		Questions: []api.Question{
			question(4, []api.Claim{claim(0, 1, 0, 9, 4), claim(1, 2, 0, 5, 4)}, one(1, 2, 0, 4, 4)),
			question(5, one(2, 3, 0, 1, 5), nil, one(2, 3, 0, 2, 5)),
			question(6, one(2, 3, 0, 3, 6)),
		},
	}
}

// P7.1, P7.5: proofs without the questions that they do not need.
func TestTrim(t *testing.T) {
	for name, c := range map[string]struct {
		w    api.World
		p    api.Proof
		want string
		e    api.Errno
	}{
		"the example":                    {example(), proofOf(0, 6, 21, "ask 1; ask 0; end 0+ 2+; end 0+ 2+; ask 0; end 0+ 3+; end 0+ 3+"), "ask 0; end 0+ 2+; end 0+ 2+", api.OK},
		"nothing to trim":                {example(), proofOf(0, 6, 21, "ask 0; end 0+ 2+; end 0+ 2+"), "ask 0; end 0+ 2+; end 0+ 2+", api.OK},
		"an end":                         {example(), proofOf(0, 5, 12, "end 0+"), "end 0+", api.OK},
		"no claims at all":               {example(), proofOf(7, 7, 1, "ask 0; end; end 0+ 0-"), "", api.ErrOpen},
		"no steps at all":                {example(), proofOf(7, 7, 1, "ask 0; ask 1; end; end; ask 1; end; end"), "end", api.OK},
		"the second choice is not used":  {tangle(), proofOf(0, 2, 7, "ask 0; end 0+ 2+; end 0+ 1+"), "ask 0; end 0+ 2+; end 0+ 1+", api.OK},
		"the claims stand further ahead": {tangle(), proofOf(2, 3, 3, "ask 0; ask 2; end 3+; ask 2; end 2+"), "ask 2; end 1+", api.OK},
		"below a choice that is used":    {tangle(), proofOf(1, 3, 8, "ask 0; ask 2; ask 1; end 2+ 3+; end 2+ 3+; end 2+ 3+; ask 2; end 1+ 2+"), "ask 0; ask 2; end 2+ 3+; ask 2; end 1+ 2+", api.OK},
		"a choice without claims":        {tangle(), proofOf(1, 3, 8, "ask 1; ask 0; end 3+ 1+; end 2+ 1+; ask 2; ask 0; end 3+ 1+; end 2+ 1+; ask 0; end 3+ 1+; end 2+ 1+"), "ask 2; ask 0; end 3+ 1+; end 2+ 1+", api.OK},
		"the first choice is not used":   {tangle(), proofOf(1, 3, 8, "ask 1; ask 0; ask 2; end 3+ 4+; ask 2; end 2+ 3+; ask 2; ask 0; end 3+ 1+; end 2+ 1+; ask 0; end 3+ 1+; end 2+ 1+"), "ask 0; ask 2; end 2+ 3+; ask 2; end 1+ 2+", api.OK},
		"the first of several":           {tangle(), proofOf(0, 1, 3, "ask 1; end 0+ 0- 0+; end 0+; end 0+ 0- 0+"), "end 0+ 0- 0+", api.OK},
		"one that is not used":           {tangle(), proofOf(2, 2, 4, "ask 1; end 1+ 1-; end; end 1+ 1-"), "end", api.OK},
		"trimmed below it first":         {tangle(), proofOf(0, 1, 4, "ask 0; ask 1; end 1- 1+ 0+; end 0+ 0- 0+; end 0+; ask 2; end 0+"), "", api.ErrOpen},
		"a choice becomes needless":      {tangle(), proofOf(0, 1, 20, "ask 0; ask 1; end 0+; end 1+; end 1+; end 0+ 1+ 1-"), "end 0+", api.OK},
		"not shown":                      {example(), proofOf(0, 6, 20, "ask 0; end 0+ 2+; end 0+ 2+"), "", api.ErrOpen},
		"no tree":                        {example(), proofOf(0, 6, 21, "ask 0; end 0+ 2+"), "", api.ErrProof},
		"no mark":                        {example(), proofOf(0, 3, 21, "ask 0; end 0+ 2+"), "", api.ErrMark},
	} {
		p, e := proof.Trim(c.w, c.p)
		want := api.Proof{}
		if c.e == api.OK {
			want = api.Proof{A: c.p.A, B: c.p.B, Most: c.p.Most, Nodes: nodes(c.want)}
		}
		if e != c.e || !sameProofs(p, want) {
			t.Error(name, tell(p.Nodes), e)
		}
	}
}

// trimmed does what the chapter says to the tree that begins at an index, behind so many claims; it returns the index behind it, too.
func trimmed(w api.World, l []api.Node, at, claims int) ([]api.Node, int) {
	q := l[at].Question
	if q == -1 {
		return copyOf(l[at : at+1]), at + 1
	}
	whole := []api.Node{{Question: q}}
	var short []api.Node
	at++
	for _, further := range w.Questions[q].Choices {
		var choice []api.Node
		choice, at = trimmed(w, l, at, claims+len(further))
		whole = append(whole, copyOf(choice)...)
		used := false
		for _, n := range choice {
			for k, s := range n.Chain {
				used = used || s.Claim >= claims && s.Claim < claims+len(further)
				if s.Claim >= claims+len(further) {
					n.Chain[k].Claim -= len(further)
				}
			}
		}
		if !used && short == nil {
			short = choice
		}
	}
	if short != nil {
		return short, at
	}
	return whole, at
}

// P7.5: what is left of a proof holds, rests on no more, is no longer and no deeper, and cannot be trimmed again.
func TestTrimmed(t *testing.T) {
	d := dice(75)
	shorter := 0
	for range 8000 {
		w := someWorld(d)
		p, ok := someProof(d, w)
		if !ok {
			continue
		}
		q, e := proof.Trim(w, p)
		want, _ := trimmed(w, p.Nodes, 0, len(w.Claims))
		if e != api.OK || !sameProofs(q, api.Proof{A: p.A, B: p.B, Most: p.Most, Nodes: want}) || proof.Check(w, q) != api.OK {
			t.Fatal(w, p, q, e)
		}
		rested := first(proof.Sources(w, p.Nodes))
		for _, source := range first(proof.Sources(w, q.Nodes)) {
			if !slices.Contains(rested, source) {
				t.Fatal(w, p, q, source)
			}
		}
		if len(q.Nodes) > len(p.Nodes) || proof.Depth(w, q.Nodes) > proof.Depth(w, p.Nodes) {
			t.Fatal(w, p, q)
		}
		if again, e := proof.Trim(w, q); e != api.OK || !sameProofs(again, q) {
			t.Fatal(w, q, again, e)
		}
		if len(q.Nodes) < len(p.Nodes) {
			shorter++
		}
		if made, e := proof.Prove(w, p.A, p.B); e == api.OK && !sameProofs(made, first(proof.Trim(w, made))) {
			t.Fatal(w, made)
		}
	}
	if shorter < 500 {
		t.Error(shorter)
	}
}

// P7.1: depths are those of the trees of a valid world.
func TestDepth(t *testing.T) {
	d := dice(76)
	for range 3000 {
		w := someWorld(d)
		l := someNodes(d, w, 0, 3)
		if d.IntN(2) == 0 {
			l = altered(d, l)
		}
		want := -1
		if eachEnd(w, l, func([]api.Claim, int) {}) {
			want = deepest(w, l)
		}
		if n := proof.Depth(w, l); n != want {
			t.Fatal(w, tell(l), n, want)
		}
	}
	for _, bad := range badWorlds() {
		if n := proof.Depth(bad.w, nodes("end")); n != -1 {
			t.Error(bad, n)
		}
	}
}

// deepest goes through a tree with the numbers of trees that are still due of each node above.
func deepest(w api.World, l []api.Node) int {
	var due []int
	most := 0
	for _, n := range l {
		if n.Question >= 0 {
			due = append(due, len(w.Questions[n.Question].Choices))
			continue
		}
		most = max(most, len(due))
		for len(due) > 0 {
			if due[len(due)-1]--; due[len(due)-1] > 0 {
				break
			}
			due = due[:len(due)-1]
		}
	}
	return most
}

// P7.1: a bound may be weakened, not made stronger; the proof need not be one.
func TestWeaken(t *testing.T) {
	strange := api.Proof{A: -7, B: math.MaxInt, Most: 5, Nodes: []api.Node{{Question: 9, Chain: []api.Step{{Claim: -3, Back: true}}}, {Question: -9}}}
	for _, p := range []api.Proof{proofOf(0, 6, 21, "ask 0; end 0+ 2+; end 0+ 2+"), {}, strange, {Most: math.MinInt}, {Most: math.MaxInt}} {
		for _, most := range append([]int{p.Most, p.Most / 2, 20, 21, 22, 30}, extremes...) {
			q, e := proof.Weaken(p, most)
			if most < p.Most {
				if e != api.ErrOpen || !isZero(q) {
					t.Error(p, most, q, e)
				}
				continue
			}
			if e != api.OK || !sameProofs(q, api.Proof{A: p.A, B: p.B, Most: most, Nodes: p.Nodes}) {
				t.Error(p, most, q, e)
			}
		}
	}
}

package proof_test

import (
	"math/rand/v2"
	"slices"
	"testing"

	"gyttja/api"
	"gyttja/cases"
	"gyttja/proof"
)

// P7.1: the sources of claims that steps use, and of questions that are asked.
func TestSources(t *testing.T) {
	w := example()
	shared := loose()
	shared.Questions[1] = question(1, one(8, 9, -1, 0, 1), nil, one(0, 5, 4, 4, 1))
	for _, c := range []struct {
		w    api.World
		text string
		by   []int
		e    api.Errno
	}{
		{w, "ask 0; end 0+ 2+; end 0+ 2+", []int{1, 2}, api.OK},
		{w, "end", nil, api.OK},
		{w, "end 1+", []int{9}, api.OK},
		{w, "end 1- 0+ 1+ 0-", []int{1, 9}, api.OK}, // no chain
		{w, "ask 1; end; end", []int{3}, api.OK},
		{w, "ask 1; ask 0; end; end 1+; end 0+", []int{1, 2, 3, 9}, api.OK},
		{w, "ask 1; end 1+; end 2+ 0+", []int{1, 3, 9}, api.OK},
		{w, "ask 0; end 2+; end 2+", []int{2}, api.OK},
		{shared, "ask 1; end 1+; end; end 0+", []int{1}, api.OK},
		{w, "end 2+", nil, api.ErrProof},
		{w, "end -1+", nil, api.ErrProof},
		{w, "end 0+ 1+ 2+", nil, api.ErrProof},
		{w, "ask 1; end 2+; end", nil, api.ErrProof}, // the first choice has no claim
		{w, "ask 1; end; end 3+", nil, api.ErrProof},
		{w, "ask 0; end 2+; ask 1; end 3+; end 3+", nil, api.ErrProof},
		{w, "ask 0; end 2+", nil, api.ErrProof},
		{w, "ask 2; end; end", nil, api.ErrProof},
		{w, loops(500), []int{1}, api.OK},
	} {
		if by, e := proof.Sources(c.w, nodes(c.text)); !slices.Equal(by, c.by) || e != c.e {
			t.Error(c.text, by, e)
		}
	}
}

// P7.1: proofs as they are without some sources.
func TestRests(t *testing.T) {
	p := proofOf(0, 6, 21, "ask 0; end 0+ 2+; end 0+ 2+")
	behind := api.World{ // all the proof needs stands behind something else
		Claims:    []api.Claim{claim(1, 2, 0, 0, 7), claim(0, 5, 10, 12, 1), claim(2, 5, 0, 0, 8), claim(6, 7, 1, 1, 9), claim(5, 2, 0, 0, 7)},
		Questions: []api.Question{question(7, one(1, 5, 0, 0, 7)), question(4, nil, nil), question(2, one(5, 6, 3, 3, 2), one(5, 6, 8, 9, 2)), question(8, nil)},
	}
	far := proofOf(0, 7, 22, "ask 2; end 1+ 5+ 3+; end 1+ 5+ 3+")
	for name, c := range map[string]struct {
		w    api.World
		p    api.Proof
		by   []int
		want string
		e    api.Errno
	}{
		"the example":              {example(), p, []int{9, 77}, "ask 0; end 0+ 1+; end 0+ 1+", api.OK},
		"nothing is taken":         {example(), p, nil, "ask 0; end 0+ 2+; end 0+ 2+", api.OK},
		"a question is taken":      {example(), p, []int{3}, "ask 0; end 0+ 2+; end 0+ 2+", api.OK},
		"no sources are taken":     {example(), p, []int{0, -1, 100000, 77, 77}, "ask 0; end 0+ 2+; end 0+ 2+", api.OK},
		"the question's source":    {example(), p, []int{2}, "", api.ErrOpen},
		"the claim's source":       {example(), p, []int{9, 3, 1}, "", api.ErrOpen},
		"the marks go":             {example(), proofOf(7, 7, 3, "ask 0; end; end"), []int{9}, "", api.ErrMark},
		"one of the marks goes":    {loose(), proofOf(9, 9, 0, "end"), []int{2, 3}, "", api.ErrMark},
		"all marks go":             {loose(), proofOf(5, 5, 0, "end"), []int{3, 2, 1}, "", api.ErrMark},
		"a source, and marks go":   {example(), proofOf(7, 7, 3, "ask 0; end; end"), []int{9, 2}, "", api.ErrOpen},
		"a mark that others have":  {loose(), proofOf(5, 5, 0, "end"), []int{1, 2}, "end", api.OK},
		"not shown":                {example(), proofOf(0, 6, 20, "ask 0; end 0+ 2+; end 0+ 2+"), []int{9}, "", api.ErrOpen},
		"no tree, its source goes": {example(), proofOf(0, 6, 21, "ask 0; end 0+ 2+"), []int{2}, "", api.ErrProof},
		"no mark ahead of it":      {example(), proofOf(0, 3, 21, "ask 0; end 0+ 2+"), []int{2}, "", api.ErrMark},
		"others behind":            {behind, far, []int{8}, "ask 2; end 1+ 4+ 2+; end 1+ 4+ 2+", api.OK},
		"others ahead and behind":  {behind, far, []int{8, 7}, "ask 1; end 0+ 2+ 1+; end 0+ 2+ 1+", api.OK},
		"all others":               {behind, far, []int{4, 7, 5, 8, 6}, "ask 0; end 0+ 2+ 1+; end 0+ 2+ 1+", api.OK},
	} {
		q, e := proof.Rests(c.w, c.p, c.by)
		want := api.Proof{}
		if c.e == api.OK {
			want = api.Proof{A: c.p.A, B: c.p.B, Most: c.p.Most, Nodes: nodes(c.want)}
		}
		if e != c.e || !sameProofs(q, want) {
			t.Error(name, q, e)
		}
		if e == api.OK && proof.Check(cases.Without(c.w, c.by), q) != api.OK {
			t.Error(name, q)
		}
	}
}

// apart returns the sources from 1 to 5 that are none of a list, but for some that dice leave out.
func apart(d *rand.Rand, by []int) []int {
	var rest []int
	for source := range 6 {
		if !slices.Contains(by, source) && d.IntN(3) > 0 {
			rest = append(rest, source)
		}
	}
	d.Shuffle(len(rest), func(i, j int) { rest[i], rest[j] = rest[j], rest[i] })
	return rest
}

// shifted are the nodes of a proof without some sources: each step has as many claims less ahead of it as were theirs.
func shifted(w api.World, l []api.Node, by []int) []api.Node {
	left := copyOf(l)
	eachEnd(w, l, func(claims []api.Claim, at int) {
		for k, s := range l[at].Chain {
			left[at].Chain[k].Claim = len(slices.DeleteFunc(slices.Clone(claims[:s.Claim]), func(c api.Claim) bool { return slices.Contains(by, c.By) }))
		}
	})
	for i, n := range l {
		if n.Question > 0 {
			left[i].Question = len(slices.DeleteFunc(slices.Clone(w.Questions[:n.Question]), func(q api.Question) bool { return slices.Contains(by, q.By) }))
		}
	}
	return left
}

// P7.4, P5: a proof is accepted as long as no source on which it rests is taken away, and just then.
func TestProofsRest(t *testing.T) {
	d := dice(74)
	found := map[api.Errno]int{}
	for range 6000 {
		w := someWorld(d)
		p, ok := someProof(d, w)
		if !ok {
			continue
		}
		sources, e := proof.Sources(w, p.Nodes)
		if e != api.OK || proof.Check(w, p) != api.OK {
			t.Fatal(w, p, e)
		}
		by := apart(d, sources)
		rest := cases.Without(w, by)
		q, e := proof.Rests(w, p, by)
		found[e]++
		if e == api.ErrMark {
			if slices.Contains(marksOf(rest), p.A) && slices.Contains(marksOf(rest), p.B) {
				t.Fatal(w, p, by)
			}
		} else if want := (api.Proof{A: p.A, B: p.B, Most: p.Most, Nodes: shifted(w, p.Nodes, by)}); e != api.OK || !sameProofs(q, want) || proof.Check(rest, q) != api.OK {
			t.Fatal(w, p, by, q, e)
		}
		for _, source := range sources {
			found[api.ErrOpen]++
			if q, e := proof.Rests(w, p, append(slices.Clone(by), source)); e != api.ErrOpen || !isZero(q) {
				t.Fatal(w, p, source, q, e)
			}
		}
	}
	if found[api.OK] < 1000 || found[api.ErrMark] < 50 || found[api.ErrOpen] < 1000 {
		t.Error(found)
	}
}

package proof_test

import (
	"slices"
	"testing"

	"gyttja/api"
	"gyttja/proof"
)

type outcome struct {
	e    api.Errno
	zero bool // all other results are zero values
}

// outcomes calls each function that takes a world and tells an error.
func outcomes(w api.World, p api.Proof, n int) map[string]outcome {
	v, u := api.Event{Id: 1, Mark: 6, Lo: n % 100, Hi: n % 100}, api.Event{Id: 2, Mark: 0}
	proved, noProve := proof.Prove(w, p.A, p.B)
	most, noMost := proof.ProveMost(w, p.A, p.B, n)
	none, noNone := proof.ProveNone(w)
	not, noNot := proof.ProveNot(w, p.A, p.B, n)
	older, noOlder := proof.ProveOlder(w, v, u)
	sources, noSources := proof.Sources(w, p.Nodes)
	rests, noRests := proof.Rests(w, p, []int{n, p.A})
	trimmed, noTrim := proof.Trim(w, p)
	return map[string]outcome{
		"Check":      {proof.Check(w, p), true},
		"Prove":      {noProve, isZero(proved)},
		"ProveMost":  {noMost, isZero(most)},
		"CheckNone":  {proof.CheckNone(w, p.Nodes), true},
		"ProveNone":  {noNone, len(none) == 0},
		"CheckNot":   {proof.CheckNot(w, p.A, p.B, n, p.Nodes), true},
		"ProveNot":   {noNot, len(not) == 0},
		"CheckOlder": {proof.CheckOlder(w, v, u, p), true},
		"ProveOlder": {noOlder, isZero(older)},
		"Sources":    {noSources, len(sources) == 0},
		"Rests":      {noRests, isZero(rests)},
		"Trim":       {noTrim, isZero(trimmed)},
	}
}

// strange are proofs of which many are none.
func strange(n, m int) []api.Proof {
	return []api.Proof{
		{A: n, B: m, Most: n, Nodes: []api.Node{{Question: n}, {Question: m}, {Question: -1}}},
		{A: n, B: m, Most: m, Nodes: []api.Node{{Question: -1, Chain: []api.Step{{Claim: n}, {Claim: m, Back: true}}}}},
		{A: 0, B: 0, Most: n, Nodes: []api.Node{{Question: 0}, {Question: -1, Chain: []api.Step{{Claim: n}}}, {Question: 1, Chain: []api.Step{{Claim: m}}}}},
		{A: n, B: n, Most: m, Nodes: nodes("ask 0; end; end")},
		{A: 5, B: 6, Most: m},
	}
}

// P1, R1, R2: each function has the error of cases.Check first, and zero values beside it.
func TestBadWorlds(t *testing.T) {
	for _, bad := range badWorlds() {
		for _, p := range append(strange(1, 2), proofOf(0, 6, 21, "ask 0; end 0+ 2+; end 0+ 2+"), proofOf(-1, 6, 21, "ask 9"), api.Proof{A: -1, Nodes: slices.Repeat(nodes("ask 9"), 4001)}) {
			for _, n := range []int{0, far + 1} {
				for function, o := range outcomes(bad.w, p, n) {
					if o.e != bad.e || !o.zero {
						t.Error(function, bad, p.A, len(p.Nodes), o)
					}
				}
			}
		}
	}
}

// P7.1, R1: of several errors that of the marks is ahead of that of the years, and that ahead of those of the nodes.
func TestOrderOfErrors(t *testing.T) {
	long := slices.Repeat(nodes("ask 9"), 4001)
	for _, c := range []struct {
		a, b int
		l    []api.Node
		want api.Errno
	}{
		{0, 9, long, api.ErrMark}, {-1, 6, long, api.ErrMark}, {2049, 0, long, api.ErrMark}, {0, 6, long, api.ErrLong}, {0, 6, long[1:], api.ErrProof}, {0, 6, nil, api.ErrProof}, {0, 6, nodes("end"), api.ErrOpen},
	} {
		p := api.Proof{A: c.a, B: c.b, Most: 99, Nodes: c.l}
		if e := proof.Check(example(), p); e != c.want {
			t.Error("Check", c.a, c.b, len(c.l), e)
		}
		if _, e := proof.Trim(example(), p); e != c.want {
			t.Error("Trim", c.a, c.b, len(c.l), e)
		}
		if _, e := proof.Rests(example(), p, []int{1, 2}); e != c.want {
			t.Error("Rests", c.a, c.b, len(c.l), e)
		}
		if e := proof.CheckNot(example(), c.a, c.b, 14, c.l); e != c.want {
			t.Error("CheckNot", c.a, c.b, len(c.l), e)
		}
		if e := proof.CheckNot(example(), c.a, c.b, far+1, c.l); c.want != api.ErrMark && e != api.ErrArg {
			t.Error("CheckNot", c.a, c.b, len(c.l), e)
		}
		if c.want == api.ErrMark {
			continue
		}
		if e := proof.CheckNone(example(), c.l); e != c.want {
			t.Error("CheckNone", len(c.l), e)
		}
		if _, e := proof.Sources(example(), c.l); c.want != api.ErrOpen && e != c.want {
			t.Error("Sources", len(c.l), e)
		}
	}
}

// P1, R2: no function panics, whatever its arguments are; beside an error all else is zero.
func TestAnyArguments(t *testing.T) {
	worlds := []api.World{{}, example(), broken(), loose(), wide(3, 2)}
	for _, n := range extremes {
		for _, m := range extremes {
			odd := api.World{Claims: one(n, m, m, n, n), Questions: []api.Question{question(n, one(n, m, m, n, n), nil)}}
			for _, p := range strange(n, m) {
				for _, w := range append(worlds, odd) {
					for function, o := range outcomes(w, p, n) {
						if o.e != api.OK && !o.zero {
							t.Error(function, w, p, n, o)
						}
					}
					proof.Depth(w, p.Nodes)
				}
				if _, e := proof.Print(p); e != api.OK && e != api.ErrForm {
					t.Error(p, e)
				}
				proof.Weaken(p, m)
			}
			v := api.Event{Id: n, Kind: m, Mark: n, Lo: m, Hi: n}
			proof.CheckOlder(example(), v, v, api.Proof{A: n, B: n, Nodes: nodes("end")})
			proof.ProveOlder(example(), v, api.Event{Id: 1, Mark: 5, Lo: n, Hi: m})
		}
	}
}

// P7.1: ErrMark is told of any mark that the world does not have, by all functions of two marks.
func TestMarks(t *testing.T) {
	for _, ends := range [][2]int{{0, 1}, {1, 0}, {-1, 0}, {0, 2049}, {64, 64}} {
		p := proofOf(ends[0], ends[1], 21, "ask 0; end 0+ 2+; end 0+ 2+")
		for _, w := range []api.World{example(), broken()} {
			for function, o := range outcomes(w, p, far+1) {
				if !slices.Contains([]string{"ProveNone", "CheckNone", "Sources", "ProveOlder"}, function) && o.e != api.ErrMark {
					t.Error(function, ends, o)
				}
			}
		}
	}
}

// R3: empty lists in place of nil change nothing.
func TestEmptyLists(t *testing.T) {
	empty := api.World{Claims: []api.Claim{}, Questions: []api.Question{question(2, []api.Claim{}, one(0, 6, 2, 2, 2), nil)}}
	bare := api.World{Questions: []api.Question{question(2, nil, one(0, 6, 2, 2, 2), []api.Claim{})}}
	for _, l := range [][]api.Node{nil, nodes("ask 0; end; end; end"), nodes("end")} {
		hollow := append([]api.Node{}, l...)
		for i := range hollow {
			hollow[i].Chain = []api.Step{}
		}
		for _, n := range []int{0, 1, 5} {
			p, q := api.Proof{A: 6, B: 6, Most: n, Nodes: l}, api.Proof{A: 6, B: 6, Most: n, Nodes: hollow}
			one, other := outcomes(empty, p, n), outcomes(bare, q, n)
			for function := range one {
				if one[function] != other[function] {
					t.Error(function, tell(l), one[function], other[function])
				}
			}
			if text, e := proof.Print(p); text != first(proof.Print(q)) || e != api.OK {
				t.Error(text, e)
			}
		}
		if proof.Depth(empty, l) != proof.Depth(bare, hollow) {
			t.Error(tell(l))
		}
	}
	if p, e := proof.Rests(empty, proofOf(6, 6, 0, "end"), []int{}); e != api.OK || tell(p.Nodes) != "end" {
		t.Error(p, e)
	}
}

func sameWorlds(w, v api.World) bool {
	return slices.Equal(w.Claims, v.Claims) && slices.EqualFunc(w.Questions, v.Questions, func(q, r api.Question) bool {
		return q.By == r.By && slices.EqualFunc(q.Choices, r.Choices, slices.Equal)
	})
}

// spoil changes all that a result has.
func spoil(l []api.Node) {
	for i := range l {
		for k := range l[i].Chain {
			l[i].Chain[k] = api.Step{Claim: 77, Back: true}
		}
		_ = append(l[i].Chain, api.Step{Claim: 77})
		l[i].Question = 77
	}
	_ = append(l, api.Node{Question: 77})
}

// R4: no argument is changed, whatever is done to a result; and no two chains of a result share memory.
func TestMemory(t *testing.T) {
	w := example()
	p := proofOf(0, 6, 21, "ask 1; ask 0; end 0+ 2+; end 0+ 2+; ask 0; end 0+ 3+; end 0+ 3+")
	by := []int{9, 77}
	check := func(name string) {
		if !sameProofs(p, proofOf(0, 6, 21, "ask 1; ask 0; end 0+ 2+; end 0+ 2+; ask 0; end 0+ 3+; end 0+ 3+")) || !slices.Equal(by, []int{9, 77}) {
			t.Fatal(name, p, by)
		}
		if !sameWorlds(w, example()) {
			t.Fatal(name, w)
		}
	}
	apart := func(name string, l []api.Node) {
		for i := range l {
			before := copyOf(l)
			spoil(l[i : i+1 : i+1])
			before[i] = l[i]
			if !sameNodes(l, before) {
				t.Error(name, tell(l), tell(before))
			}
		}
		spoil(l)
		check(name)
	}
	proof.CheckNone(w, p.Nodes)
	proof.CheckNot(w, 0, 6, 30, p.Nodes)
	proof.Depth(w, p.Nodes)
	proof.Print(p)
	check("checks")
	sources := first(proof.Sources(w, p.Nodes))
	sources[0] = 77
	check("Sources")
	apart("Rests", first(proof.Rests(w, p, by)).Nodes)
	apart("Rests of all", first(proof.Rests(w, p, nil)).Nodes)
	apart("Trim", first(proof.Trim(w, p)).Nodes)
	apart("Weaken", first(proof.Weaken(p, 30)).Nodes)
	apart("Prove", first(proof.Prove(w, 0, 6)).Nodes)
	apart("ProveMost", first(proof.ProveMost(w, 0, 6, 30)).Nodes)
	apart("ProveNot", first(proof.ProveNot(w, 0, 6, 16)))
	v, u := api.Event{Id: 1, Mark: 6}, api.Event{Id: 2, Mark: 0, Lo: 3, Hi: 5}
	apart("ProveOlder", first(proof.ProveOlder(w, v, u)).Nodes)
	p = proofOf(0, 5, 12, "end 0+")
	q := first(proof.Trim(w, p))
	spoil(q.Nodes)
	if tell(p.Nodes) != "end 0+" {
		t.Error(p)
	}
	w = broken()
	spoil(first(proof.ProveNone(w)))
	if keep := broken(); !sameWorlds(w, keep) {
		t.Error(w)
	}
}

// P7.1: what is told does not depend on what was asked before.
func TestAgain(t *testing.T) {
	d := dice(78)
	for range 200 {
		w := someWorld(d)
		a, b := someMark(d), someMark(d)
		p, e := proof.Prove(w, a, b)
		if q, f := proof.Prove(w, a, b); e != f || !sameProofs(p, q) {
			t.Fatal(w, p, q)
		}
	}
}

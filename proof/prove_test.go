package proof_test

import (
	"math"
	"slices"
	"testing"

	"gyttja/api"
	"gyttja/cases"
	"gyttja/proof"
)

// P7.1, P7.3: least bounds of some worlds, each with its proof.
func TestProve(t *testing.T) {
	for name, c := range map[string]struct {
		w          api.World
		a, b, most int
		e          api.Errno
	}{
		"the example":                    {example(), 0, 6, 21, api.OK},
		"turned round":                   {example(), 6, 0, -13, api.OK},
		"over a mark":                    {example(), 0, 7, 22, api.OK},
		"of the world's claims":          {example(), 5, 0, -10, api.OK},
		"a mark and itself":              {example(), 5, 5, 0, api.OK},
		"a mark of some leaves":          {loose(), 9, 9, 0, api.OK},
		"tied in all leaves":             {loose(), 6, 5, -1, api.OK},
		"tied in some leaves":            {loose(), 5, 3, 0, api.ErrFar},
		"in some leaves":                 {loose(), 8, 9, 0, api.ErrFar},
		"never tied":                     {loose(), 0, 9, 0, api.ErrFar},
		"no chronology":                  {broken(), 0, 6, 0, api.ErrChronology},
		"no chronology, one mark":        {broken(), 0, 0, 0, api.ErrChronology},
		"no such mark":                   {example(), 0, 9, 0, api.ErrMark},
		"no such mark, no chronology":    {broken(), 9, 0, 0, api.ErrMark},
		"no marks at all":                {api.World{}, 0, 0, 0, api.ErrMark},
		"a choice that contradicts":      {api.World{Claims: one(1, 2, 5, 6, 1), Questions: []api.Question{question(2, one(1, 2, 7, 9, 2), one(2, 3, 1, 1, 2))}}, 1, 3, 7, api.OK},
		"each choice has the same bound": {api.World{Questions: []api.Question{question(2, one(1, 2, 7, 9, 2), one(1, 2, 3, 9, 2))}}, 1, 2, 9, api.OK},
	} {
		p, e := proof.Prove(c.w, c.a, c.b)
		if e != c.e || e != api.OK && !isZero(p) {
			t.Error(name, p, e)
		}
		if e == api.OK && (p.A != c.a || p.B != c.b || p.Most != c.most || proof.Check(c.w, p) != api.OK) {
			t.Error(name, p)
		}
	}
}

// P7.1: proofs of any bound, and of numbers of years that are none; without a chronology, all is proved.
func TestProveMostAndNot(t *testing.T) {
	for _, c := range []struct {
		w       api.World
		a, b, n int
		most    api.Errno
		not     api.Errno
	}{
		{example(), 0, 6, 20, api.ErrOpen, api.ErrOpen}, {example(), 0, 6, 21, api.OK, api.ErrOpen}, {example(), 0, 6, 22, api.OK, api.OK},
		{example(), 0, 6, 12, api.ErrOpen, api.OK}, {example(), 0, 6, 16, api.ErrOpen, api.OK}, {example(), 0, 6, 17, api.ErrOpen, api.OK}, {example(), 0, 6, 18, api.ErrOpen, api.ErrOpen},
		{example(), 0, 6, far, api.OK, api.OK}, {example(), 0, 6, far + 1, api.OK, api.ErrArg}, {example(), 0, 6, math.MaxInt, api.OK, api.ErrArg},
		{example(), 0, 6, -far, api.ErrOpen, api.OK}, {example(), 0, 6, -far - 1, api.ErrOpen, api.ErrArg}, {example(), 0, 6, math.MinInt, api.ErrOpen, api.ErrArg},
		{example(), 5, 5, 0, api.OK, api.ErrOpen}, {example(), 5, 5, -1, api.ErrOpen, api.OK}, {example(), 5, 5, 1, api.OK, api.OK},
		{loose(), 5, 3, far, api.ErrOpen, api.ErrOpen}, {loose(), 5, 3, math.MaxInt, api.ErrOpen, api.ErrArg}, {loose(), 8, 9, 5, api.ErrOpen, api.ErrOpen}, {loose(), 3, 3, 4, api.OK, api.OK},
		{broken(), 0, 6, 0, api.OK, api.OK}, {broken(), 0, 7, -far, api.OK, api.OK}, {broken(), 5, 5, math.MinInt, api.OK, api.ErrArg}, {broken(), 5, 5, 0, api.OK, api.OK},
		{broken(), 0, 1, 0, api.ErrMark, api.ErrMark}, {example(), -1, 5, far + 1, api.ErrMark, api.ErrMark}, {example(), 5, 2049, 0, api.ErrMark, api.ErrMark},
	} {
		p, e := proof.ProveMost(c.w, c.a, c.b, c.n)
		if e != c.most || e != api.OK && !isZero(p) {
			t.Error("ProveMost", c, p, e)
		}
		if e == api.OK && (p.A != c.a || p.B != c.b || p.Most != c.n || proof.Check(c.w, p) != api.OK) {
			t.Error("ProveMost", c, p)
		}
		l, e := proof.ProveNot(c.w, c.a, c.b, c.n)
		if e != c.not || e != api.OK && len(l) > 0 {
			t.Error("ProveNot", c, l, e)
		}
		if e == api.OK && proof.CheckNot(c.w, c.a, c.b, c.n, l) != api.OK {
			t.Error("ProveNot", c, l)
		}
	}
}

// P7.1: nodes that there is no chronology, where there is none.
func TestProveNone(t *testing.T) {
	l, e := proof.ProveNone(broken())
	if e != api.OK || proof.CheckNone(broken(), l) != api.OK {
		t.Error(tell(l), e)
	}
	for _, w := range []api.World{{}, example(), loose(), wide(3, 2)} {
		if l, e := proof.ProveNone(w); e != api.ErrOpen || len(l) > 0 {
			t.Error(w, l, e)
		}
	}
	twice := api.World{Claims: []api.Claim{claim(1, 2, 3, 4, 1), claim(1, 2, 5, 5, 2)}, Questions: example().Questions}
	if l, e := proof.ProveNone(twice); e != api.OK || len(l) != 1 || proof.CheckNone(twice, l) != api.OK {
		t.Error(tell(l), e)
	}
}

// P7.1: an event must be valid, ahead of all else; it is older than another one, or that is open.
func TestProveOlder(t *testing.T) {
	v, u := api.Event{Id: 1, Mark: 6, Lo: 0, Hi: 1}, api.Event{Id: 2, Mark: 0, Lo: -4, Hi: 3}
	at := func(mark, lo, hi int) api.Event { return api.Event{Id: 9, Kind: 99, Mark: mark, Lo: lo, Hi: hi} }
	for _, c := range []struct {
		w    api.World
		v, u api.Event
		most int
		e    api.Errno
	}{
		{example(), v, u, -4, api.OK}, {example(), u, v, 0, api.ErrOpen},
		{example(), at(6, 0, 1), at(0, 3, 12), -13, api.OK}, {example(), at(6, 0, 1), at(0, 3, 13), 0, api.ErrOpen}, {example(), at(6, 1, 1), at(0, 3, 13), -13, api.OK},
		{example(), at(5, 4, 4), at(5, 3, 3), 0, api.OK}, {example(), at(5, 4, 4), at(5, 3, 4), 0, api.ErrOpen}, {example(), at(5, 4, 8), at(5, -1, 2), 1, api.OK},
		{example(), at(5, 100000, 100000), at(6, -100000, -100000), 199999, api.OK}, {example(), at(5, -100000, 100000), at(6, -100000, 100000), 0, api.ErrOpen},
		{loose(), at(5, 100000, 100000), at(3, -100000, -100000), 0, api.ErrOpen}, {broken(), at(0, 0, 0), at(6, 9, 9), -10, api.OK},
		{example(), at(5, 0, 0), at(8, 0, 0), 0, api.ErrMark}, {broken(), at(8, 0, 0), at(5, 0, 0), 0, api.ErrMark},
	} {
		p, e := proof.ProveOlder(c.w, c.v, c.u)
		if e != c.e || e != api.OK && !isZero(p) {
			t.Error(c, p, e)
		}
		if e == api.OK && (p.A != c.v.Mark || p.B != c.u.Mark || p.Most != c.most || proof.CheckOlder(c.w, c.v, c.u, p) != api.OK) {
			t.Error(c, p)
		}
		for _, bad := range []api.Event{{}, {Id: 1, Mark: 6, Lo: 1}, {Id: 100000, Mark: 6}, {Id: 1, Mark: -1}, {Id: 1, Mark: 6, Lo: math.MinInt, Hi: math.MaxInt}} {
			for _, w := range []api.World{c.w, badWorlds()[1].w} {
				if p, e := proof.ProveOlder(w, bad, c.u); e != api.ErrEvent || !isZero(p) {
					t.Error(bad, p, e)
				}
				if p, e := proof.ProveOlder(w, c.v, bad); e != api.ErrEvent || !isZero(p) {
					t.Error(bad, p, e)
				}
			}
		}
	}
}

// P7.3, P3: what holds in each leaf is proved, and nothing else.
func TestProofsAreComplete(t *testing.T) {
	d := dice(72)
	found := map[string]int{}
	for range 1500 {
		w := someWorld(d)
		a, b := someMark(d), someMark(d)
		most, ok := greatest(w, a, b)
		due := api.OK
		if !ok {
			due = api.ErrChronology
		} else if most == far {
			due = api.ErrFar
		}
		p, e := proof.Prove(w, a, b)
		if e != due || e == api.OK && (p.Most != most || proof.Check(w, p) != api.OK) {
			t.Fatal(w, a, b, p, e)
		}
		if e == api.OK {
			found["Prove"]++
			if p.Most--; proof.Check(w, p) != api.ErrOpen {
				t.Fatal(w, p)
			}
		}
		l, e := proof.ProveNone(w)
		if (e == api.OK) != !ok || e != api.OK && e != api.ErrOpen || e == api.OK && proof.CheckNone(w, l) != api.OK {
			t.Fatal(w, l, e)
		}
		for n := -12; n <= 12; n++ {
			p, e := proof.ProveMost(w, a, b, n)
			if (e == api.OK) != isBound(w, a, b, n) || e != api.OK && e != api.ErrOpen || e == api.OK && proof.Check(w, p) != api.OK {
				t.Fatal(w, a, b, n, p, e)
			}
			l, e := proof.ProveNot(w, a, b, n)
			if (e == api.OK) == has(w, a, b, n) || e != api.OK && e != api.ErrOpen || e == api.OK && proof.CheckNot(w, a, b, n, l) != api.OK {
				t.Fatal(w, a, b, n, l, e)
			}
			if e == api.OK && ok {
				found["ProveNot"]++
			}
			v, u := api.Event{Id: 1, Mark: a, Lo: n, Hi: n + d.IntN(4)}, api.Event{Id: 2, Mark: b, Lo: -d.IntN(4), Hi: d.IntN(4)}
			p, e = proof.ProveOlder(w, v, u)
			if (e == api.OK) != isBound(w, a, b, v.Lo-u.Hi-1) || e == api.OK && proof.CheckOlder(w, v, u, p) != api.OK {
				t.Fatal(w, v, u, p, e)
			}
		}
	}
	if found["Prove"] < 200 || found["ProveNot"] < 2000 {
		t.Error(found)
	}
}

// ladder has a question for each rung between marks that follow each other, with so many choices; each choice has another bound, and the last one the greatest one.
func ladder(choices ...int) api.World {
	var w api.World
	for i, n := range choices {
		q := api.Question{By: i + 1}
		for k := range n {
			q.Choices = append(q.Choices, one(i, i+1, 0, k+1, i+1))
		}
		w.Questions = append(w.Questions, q)
	}
	return w
}

// P7.1: where all questions must be asked, those with few choices are asked first: otherwise there would be more nodes than a proof may have.
func TestOrderOfQuestions(t *testing.T) {
	for _, c := range []struct {
		choices []int
		nodes   int
	}{
		{[]int{60, 5, 5, 2}, 1 + 2 + 10 + 50 + 3000}, {[]int{5, 5, 5, 4, 3, 2}, 3753}, {[]int{1, 1, 1, 60, 1, 50}, 5 + 50 + 3000}, {[]int{1, 1}, 3},
	} {
		w := ladder(c.choices...)
		most := 0
		for _, n := range c.choices {
			most += n
		}
		p, e := proof.Prove(w, 0, len(c.choices))
		if e != api.OK || p.Most != most || len(p.Nodes) != c.nodes || proof.Check(w, p) != api.OK || proof.Depth(w, p.Nodes) != len(c.choices) {
			t.Error(c, p.Most, len(p.Nodes), e)
		}
		if e := proof.Check(w, api.Proof{A: p.A, B: p.B, Most: p.Most - 1, Nodes: p.Nodes}); e != api.ErrOpen {
			t.Error(c, e)
		}
	}
}

// P7.1: questions that the chapter does not need to be asked are not.
func TestNeedlessQuestions(t *testing.T) {
	w := ladder(3, 2)
	w.Questions = append(wide(2, 3).Questions, w.Questions...)
	p, e := proof.Prove(w, 0, 1)
	if by := first(proof.Sources(w, p.Nodes)); e != api.OK || p.Most != 3 || len(p.Nodes) != 4 || !slices.Equal(by, []int{1}) {
		t.Error(p, by, e)
	}
}

// crowded is a world at the limits: 64 marks, 400 claims at each leaf, 3000 leaves, each of which must be shown by a long chain.
func crowded() api.World {
	var w api.World
	for i := range 300 {
		a := i % 63
		b := min(63, a+1+i/63)
		w.Claims = append(w.Claims, claim(a, b, 50*(b-a), 150*(b-a), 1+i))
	}
	for i, n := range []int{60, 50} {
		q := api.Question{By: 1000 + i}
		for k := range n {
			var l []api.Claim
			for a := range 50 {
				a += 13 * i
				l = append(l, claim(a, a+1, 60, 100-20*i+k%2, q.By))
			}
			q.Choices = append(q.Choices, l)
		}
		w.Questions = append(w.Questions, q)
	}
	return w
}

// P1, P7.1: at the limits proofs are made and checked; each chain has at most 64 steps.
func TestProofsAtTheLimits(t *testing.T) {
	w := crowded()
	if e := cases.Check(w); e != api.OK {
		t.Fatal(e)
	}
	p, e := proof.Prove(w, 0, 63)
	if e != api.OK || p.Most != 13*101+50*81 || len(p.Nodes) != 3051 || proof.Check(w, p) != api.OK {
		t.Fatal(p.Most, len(p.Nodes), e)
	}
	if p.Most--; proof.Check(w, p) != api.ErrOpen {
		t.Error(p.Most)
	}
	if _, e := proof.ProveMost(w, 0, 63, p.Most); e != api.ErrOpen {
		t.Error(e)
	}
	not, e := proof.ProveNot(w, 0, 63, p.Most+2)
	if e != api.OK || len(not) != 3051 || proof.CheckNot(w, 0, 63, p.Most+2, not) != api.OK {
		t.Error(len(not), e)
	}
	if text, e := proof.Print(p); e != api.ErrLong || text != "" {
		t.Error(len(text), e)
	}
	w.Claims[0] = claim(0, 63, p.Most+2, p.Most+9, 1)
	none, e := proof.ProveNone(w)
	if e != api.OK || len(none) != 3051 || proof.CheckNone(w, none) != api.OK {
		t.Error(len(none), e)
	}
	for _, n := range slices.Concat(p.Nodes, not, none) {
		if len(n.Chain) > 64 {
			t.Error(len(n.Chain))
		}
	}
}

package proof_test

import (
	"math"
	"math/rand/v2"
	"slices"
	"strconv"
	"strings"

	"gyttja/api"
)

const far = api.Far

// extremes are numbers at and beyond all limits.
var extremes = []int{math.MinInt, -far - 1, -far, -api.MaxReach - 1, -100001, -1, 0, 1, 2, 5, 6, 400, 2048, 2049, 99999, 100000, 4001, far, far + 1, math.MaxInt}

func dice(seed uint64) *rand.Rand { return rand.New(rand.NewPCG(seed, 7)) }

func first[T any](x T, _ api.Errno) T { return x }

func claim(a, b, lo, hi, by int) api.Claim { return api.Claim{A: a, B: b, Lo: lo, Hi: hi, By: by} }

func question(by int, choices ...[]api.Claim) api.Question {
	return api.Question{By: by, Choices: choices}
}

// one is a choice of one claim.
func one(a, b, lo, hi, by int) []api.Claim { return []api.Claim{claim(a, b, lo, hi, by)} }

// example is the world of the chapter's examples.
func example() api.World {
	return api.World{
		Claims: []api.Claim{claim(0, 5, 10, 12, 1), claim(6, 7, 1, 1, 9)},
		Questions: []api.Question{
			question(2, one(5, 6, 3, 3, 2), one(5, 6, 8, 9, 2)),
			question(3, nil, one(0, 6, 30, 40, 3)),
		},
	}
}

// broken is the example with the claim that leaves no leaf.
func broken() api.World {
	w := example()
	w.Claims = append(w.Claims, claim(0, 6, 16, 17, 4))
	return w
}

// loose has leaves in which marks are not tied, or do not occur: only the marks 5 and 6 are tied in all.
func loose() api.World {
	return api.World{
		Claims: one(5, 6, 1, 2, 1),
		Questions: []api.Question{
			question(2, one(3, 4, 7, 7, 2), one(6, 3, 2, 2, 2)),
			question(3, one(8, 9, -1, 0, 3), nil, one(0, 5, 4, 4, 3)),
		},
	}
}

type badWorld struct {
	w api.World
	e api.Errno
}

// badWorlds are worlds that are not valid, and their errors.
func badWorlds() []badWorld {
	w := example()
	return []badWorld{
		{api.World{Claims: one(1, 1, 0, 0, 1), Questions: w.Questions}, api.ErrClaim},
		{api.World{Claims: slices.Repeat(w.Claims, 201)}, api.ErrLong},
		{api.World{Claims: w.Claims, Questions: slices.Repeat(w.Questions, 4)}, api.ErrLong},
		{api.World{Claims: w.Claims, Questions: []api.Question{question(2, one(5, 6, 3, 3, 4))}}, api.ErrQuestion},
	}
}

// nodes are read as in "ask 0; end 0+ 2-".
func nodes(text string) []api.Node {
	var l []api.Node
	for part := range strings.SplitSeq(text, ";") {
		words := strings.Fields(part)
		n := api.Node{Question: -1}
		for _, word := range words[1:] {
			if words[0] == "ask" {
				n.Question, _ = strconv.Atoi(word)
				continue
			}
			index, _ := strconv.Atoi(word[:len(word)-1])
			n.Chain = append(n.Chain, api.Step{Claim: index, Back: word[len(word)-1] == '-'})
		}
		l = append(l, n)
	}
	return l
}

// tell writes nodes so that tests can compare them.
func tell(l []api.Node) string {
	var parts []string
	for _, n := range l {
		part := "end"
		if n.Question != -1 {
			part = "ask " + strconv.Itoa(n.Question)
		}
		for _, s := range n.Chain {
			part += " " + strconv.Itoa(s.Claim) + map[bool]string{false: "+", true: "-"}[s.Back]
		}
		parts = append(parts, part)
	}
	return strings.Join(parts, "; ")
}

func proofOf(a, b, most int, text string) api.Proof {
	return api.Proof{A: a, B: b, Most: most, Nodes: nodes(text)}
}

func sameProofs(p, q api.Proof) bool {
	return p.A == q.A && p.B == q.B && p.Most == q.Most && sameNodes(p.Nodes, q.Nodes)
}

func sameNodes(l, m []api.Node) bool {
	return slices.EqualFunc(l, m, func(n, o api.Node) bool { return n.Question == o.Question && slices.Equal(n.Chain, o.Chain) })
}

func isZero(p api.Proof) bool { return sameProofs(p, api.Proof{}) }

// copyOf shares no memory with the nodes.
func copyOf(l []api.Node) []api.Node {
	l = slices.Clone(l)
	for i, n := range l {
		l[i].Chain = slices.Clone(n.Chain)
	}
	return l
}

// someMarks are the marks of worlds that are made by dice.
var someMarks = []int{0, 3, 4, 9}

func someMark(d *rand.Rand) int { return someMarks[d.IntN(len(someMarks))] }

func someClaims(d *rand.Rand, by, n int) []api.Claim {
	var l []api.Claim
	for range n {
		a, b, lo := someMark(d), someMark(d), d.IntN(7)-3
		if a != b {
			l = append(l, claim(a, b, lo, lo+d.IntN(4), by))
		}
	}
	return l
}

// someWorld has all marks, and sources of which claims and questions may share some.
func someWorld(d *rand.Rand) api.World {
	for {
		var w api.World
		for range 1 + d.IntN(4) {
			w.Claims = append(w.Claims, someClaims(d, 1+d.IntN(4), 1)...)
		}
		for range d.IntN(4) {
			q := api.Question{By: 2 + d.IntN(4)}
			for range 1 + d.IntN(3) {
				q.Choices = append(q.Choices, someClaims(d, q.By, d.IntN(4)))
			}
			w.Questions = append(w.Questions, q)
		}
		if slices.Equal(marksOf(w), someMarks) {
			return w
		}
	}
}

// marksOf are the marks of a world.
func marksOf(w api.World) []int {
	var marks []int
	add := func(l []api.Claim) {
		for _, c := range l {
			marks = append(marks, c.A, c.B)
		}
	}
	add(w.Claims)
	for _, q := range w.Questions {
		add(slices.Concat(q.Choices...))
	}
	slices.Sort(marks)
	return slices.Compact(marks)
}

// eachWay visits the claims at all choices, leaf or not.
func eachWay(w api.World, visit func(claims []api.Claim)) {
	var search func(claims []api.Claim, left []api.Question)
	search = func(claims []api.Claim, left []api.Question) {
		if len(left) == 0 {
			visit(claims)
			return
		}
		for _, further := range left[0].Choices {
			search(slices.Concat(claims, further), left[1:])
		}
	}
	search(w.Claims, w.Questions)
}

// bounds has the years that marks lie at most below others by some claims. It is not ok if these have no chronology.
func bounds(marks []int, claims []api.Claim) (most map[[2]int]int, ok bool) {
	most = map[[2]int]int{}
	for _, a := range marks {
		for _, b := range marks {
			most[[2]int{a, b}] = far
		}
		most[[2]int{a, a}] = 0
	}
	lower := func(a, b, n int) { most[[2]int{a, b}] = min(n, most[[2]int{a, b}]) }
	for _, c := range claims {
		lower(c.A, c.B, c.Hi)
		lower(c.B, c.A, -c.Lo)
	}
	for _, k := range marks {
		for _, a := range marks {
			for _, b := range marks {
				if over := [2]int{most[[2]int{a, k}], most[[2]int{k, b}]}; over[0] != far && over[1] != far {
					lower(a, b, over[0]+over[1])
				}
			}
		}
	}
	for _, a := range marks {
		if most[[2]int{a, a}] < 0 {
			return nil, false
		}
	}
	return most, true
}

// truth is what the leaves of a world say of two marks: the years between them at each leaf.
func truth(w api.World, a, b int) []api.Run {
	var runs []api.Run
	marks := marksOf(w)
	eachWay(w, func(claims []api.Claim) {
		if most, ok := bounds(marks, claims); ok {
			runs = append(runs, api.Run{Lo: -most[[2]int{b, a}], Hi: most[[2]int{a, b}]})
		}
	})
	return runs
}

// greatest is the greatest number of years that b lies below a at some leaf; it is not ok if there is no leaf.
func greatest(w api.World, a, b int) (most int, ok bool) {
	runs := truth(w, a, b)
	most = -far
	for _, r := range runs {
		most = max(most, r.Hi)
	}
	return most, len(runs) > 0
}

// isBound reports whether b lies at most so many years below a in all chronologies.
func isBound(w api.World, a, b, n int) bool {
	most, ok := greatest(w, a, b)
	return !ok || most != far && most <= n
}

// has reports whether b may lie so many years below a.
func has(w api.World, a, b, n int) bool {
	return slices.ContainsFunc(truth(w, a, b), func(r api.Run) bool { return r.Lo <= n && n <= r.Hi })
}

// leads tells where a chain leads, and what it shows; it is not ok if it is none.
func leads(claims []api.Claim, chain []api.Step) (from, to, most int, ok bool) {
	for i, s := range chain {
		if s.Claim < 0 || s.Claim >= len(claims) {
			return 0, 0, 0, false
		}
		c := claims[s.Claim]
		if s.Back {
			c = claim(c.B, c.A, -c.Hi, -c.Lo, c.By)
		}
		if i == 0 {
			from = c.A
		} else if c.A != to {
			return 0, 0, 0, false
		}
		to = c.B
		most += c.Hi
	}
	return from, to, most, len(chain) > 0 && len(chain) <= 400
}

// shows reports whether a chain shows that b lies at most n years below a.
func shows(claims []api.Claim, chain []api.Step, a, b, n int) bool {
	from, to, most, ok := leads(claims, chain)
	return ok && from == a && to == b && most <= n || len(chain) == 0 && a == b && n >= 0
}

func contradicts(claims []api.Claim, chain []api.Step) bool {
	from, to, most, ok := leads(claims, chain)
	return ok && from == to && most < 0
}

// behind returns the index behind the tree that begins at an index, and calls visit with the claims on the way to each end, and the index of that; -1 if no tree begins there.
func behind(w api.World, l []api.Node, at int, asked []int, claims []api.Claim, visit func(claims []api.Claim, at int)) int {
	if at < 0 || at >= len(l) {
		return -1
	}
	q := l[at].Question
	if q == -1 {
		visit(claims, at)
		return at + 1
	}
	if q < 0 || q >= len(w.Questions) || slices.Contains(asked, q) || len(l[at].Chain) > 0 {
		return -1
	}
	asked = append(slices.Clone(asked), q)
	at++
	for _, further := range w.Questions[q].Choices {
		at = behind(w, l, at, asked, slices.Concat(claims, further), visit)
	}
	return at
}

// eachEnd visits the ends of a tree, and reports whether nodes are one.
func eachEnd(w api.World, l []api.Node, visit func(claims []api.Claim, at int)) bool {
	return len(l) <= 4000 && behind(w, l, 0, nil, w.Claims, visit) == len(l)
}

// verdict is the error due of nodes at whose ends a chain must be met.
func verdict(w api.World, l []api.Node, met func(claims []api.Claim, chain []api.Step) bool) api.Errno {
	all := true
	ok := eachEnd(w, l, func(claims []api.Claim, at int) {
		all = all && (contradicts(claims, l[at].Chain) || met(claims, l[at].Chain))
	})
	switch {
	case len(l) > 4000:
		return api.ErrLong
	case !ok:
		return api.ErrProof
	case !all:
		return api.ErrOpen
	}
	return api.OK
}

// someChain goes from a mark along claims; often to b, or back to a.
func someChain(d *rand.Rand, claims []api.Claim, a, b int) []api.Step {
	for range 12 {
		var chain []api.Step
		at := a
		for range 1 + d.IntN(5) {
			var further []api.Step
			for i, c := range claims {
				if c.A == at {
					further = append(further, api.Step{Claim: i})
				}
				if c.B == at {
					further = append(further, api.Step{Claim: i, Back: true})
				}
			}
			if len(further) == 0 {
				return chain
			}
			s := further[d.IntN(len(further))]
			chain = append(chain, s)
			at = claims[s.Claim].B
			if s.Back {
				at = claims[s.Claim].A
			}
			if at == b || contradicts(claims, chain) {
				return chain
			}
		}
	}
	return nil
}

// someNodes are a tree of a world, with chains from a, many of them to b.
func someNodes(d *rand.Rand, w api.World, a, b int) []api.Node {
	var grow func(claims []api.Claim, left []int) []api.Node
	grow = func(claims []api.Claim, left []int) []api.Node {
		if len(left) == 0 || d.IntN(3) == 0 {
			return []api.Node{{Question: -1, Chain: someChain(d, claims, a, b)}}
		}
		l := []api.Node{{Question: left[0]}}
		for _, further := range w.Questions[left[0]].Choices {
			l = append(l, grow(slices.Concat(claims, further), left[1:])...)
		}
		return l
	}
	return grow(w.Claims, d.Perm(len(w.Questions)))
}

// altered are nodes with one small change, which may be none.
func altered(d *rand.Rand, l []api.Node) []api.Node {
	l = copyOf(l)
	if len(l) == 0 {
		return nodes("end")
	}
	i := d.IntN(len(l))
	k := d.IntN(len(l[i].Chain) + 1)
	switch n := &l[i]; {
	case d.IntN(8) == 0:
		return slices.Delete(l, i, i+1)
	case d.IntN(8) == 0:
		return slices.Insert(l, i, api.Node{Question: d.IntN(4) - 1})
	case d.IntN(8) == 0:
		n.Question = d.IntN(5) - 2
	case k == len(n.Chain):
		n.Chain = append(n.Chain, api.Step{Claim: d.IntN(6), Back: d.IntN(2) == 0})
	case d.IntN(3) == 0:
		n.Chain = slices.Delete(n.Chain, k, k+1)
	case d.IntN(2) == 0:
		n.Chain[k].Back = !n.Chain[k].Back
	default:
		n.Chain[k].Claim += d.IntN(3) - 1
	}
	return l
}

// someProof is a proof that holds, often one that asks more than it needs; it is not ok if the dice found none.
func someProof(d *rand.Rand, w api.World) (p api.Proof, ok bool) {
	p.A, p.B, p.Most = someMark(d), someMark(d), -far
	p.Nodes = someNodes(d, w, p.A, p.B)
	ok = true
	eachEnd(w, p.Nodes, func(claims []api.Claim, at int) {
		chain := p.Nodes[at].Chain
		if contradicts(claims, chain) {
			return
		}
		_, _, most, _ := leads(claims, chain)
		p.Most = max(p.Most, most)
		ok = ok && shows(claims, chain, p.A, p.B, most)
	})
	return p, ok
}

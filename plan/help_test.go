package plan_test

import (
	"math"
	"math/rand/v2"
	"slices"

	"gyttja/api"
	"gyttja/cases"
	"gyttja/plan"
)

const far = api.Far

// extremes are numbers at and beyond all limits.
var extremes = []int{math.MinInt, math.MinInt + 50, -far - 1, -far, -100051, -100050, -100000, -1, 0, 1, 2, 5, 12, 50, 51, 2048, 2049, 99999, 100000, 100050, 100051, api.MaxCost, api.MaxCost + 1, far, far + 1, math.MaxInt - 50, math.MaxInt}

func dice(seed uint64) *rand.Rand { return rand.New(rand.NewPCG(seed, 9)) }

func first[T any](x T, _ api.Errno) T { return x }

// runs have the years from one number to the next one, two by two.
func runs(l ...int) []api.Run {
	var out []api.Run
	for i := 0; i < len(l); i += 2 {
		out = append(out, api.Run{Lo: l[i], Hi: l[i+1]})
	}
	return out
}

func claim(a, b, lo, hi, by int) api.Claim { return api.Claim{A: a, B: b, Lo: lo, Hi: hi, By: by} }

func claims(l ...api.Claim) []api.Claim { return l }

func piece(a, b, miss, cost int) api.Piece { return api.Piece{A: a, B: b, Miss: miss, Cost: cost} }

func pieces(l ...api.Piece) []api.Piece { return l }

func ask(a, b int) api.Ask { return api.Ask{A: a, B: b} }

func question(by int, choices ...[]api.Claim) api.Question {
	return api.Question{By: by, Choices: choices}
}

func world(l []api.Claim, questions ...api.Question) api.World {
	return api.World{Claims: l, Questions: questions}
}

// with is a world with further claims.
func with(w api.World, l ...api.Claim) api.World {
	w.Claims = slices.Concat(w.Claims, l)
	return w
}

// example is the world of the chapter's examples, with its question and its pieces.
func example() (w api.World, q api.Ask, p, r api.Piece) {
	return world(claims(claim(0, 1, 0, 10, 1), claim(1, 2, 0, 10, 1))), ask(0, 2), piece(0, 1, 1, 5), piece(0, 2, 3, 9)
}

// broken has the marks of the example and no chronology.
func broken() api.World {
	w, _, _, _ := example()
	return with(w, claim(0, 2, 30, 31, 2))
}

// torn is the example with a question: with its first choice the mark 3 lies 4 years below the mark 2, with the second one 60 below the mark 1, which lies 8 to 9 years deep then; with the third one nothing ties it.
func torn() api.World {
	w, _, _, _ := example()
	w.Questions = []api.Question{question(5, claims(claim(2, 3, 4, 4, 5), claim(0, 1, 0, 1, 5)), claims(claim(1, 3, 60, 60, 5), claim(0, 1, 8, 9, 5)), claims(claim(0, 1, 4, 5, 5)))}
	return w
}

// gapped has three choices: the mark 1 lies 10 to 12 or 20 to 21 years below the datum, or cannot be; the mark 2 lies 3 years below it.
func gapped() api.World {
	return world(claims(claim(1, 2, 3, 3, 4)), question(1,
		claims(claim(0, 1, 10, 12, 1)), claims(claim(0, 1, 5, 6, 1), claim(0, 1, 7, 8, 1)), claims(claim(0, 1, 20, 21, 1))))
}

// full is the example with so many claims more, of a source each.
func full(more int) api.World {
	w, _, _, _ := example()
	for by := range more {
		w.Claims = append(w.Claims, claim(0, 1, 0, 10, by+2))
	}
	return w
}

// someMarks are the marks of worlds that are made by dice; the oracle tries all years of so few.
var someMarks = []int{0, 2, 7, 8}

// dates are the years of these marks.
type dates [4]int

func (x dates) between(a, b int) int {
	return x[slices.Index(someMarks, b)] - x[slices.Index(someMarks, a)]
}

func someOf[T any](d *rand.Rand, l []T) T { return l[d.IntN(len(l))] }

func someClaim(d *rand.Rand, by int) api.Claim {
	a, b := somePair(d)
	lo := d.IntN(5) - 2
	return claim(a, b, lo, lo+d.IntN(3), by)
}

// somePair is two different marks.
func somePair(d *rand.Rand) (a, b int) {
	i := d.IntN(len(someMarks))
	k := (i + 1 + d.IntN(len(someMarks)-1)) % len(someMarks)
	return someMarks[i], someMarks[k]
}

// someWorld has all of the marks, which are tied in many worlds and not in others, and a chronology.
func someWorld(d *rand.Rand) api.World {
	for {
		var w api.World
		for range 1 + d.IntN(4) {
			w.Claims = append(w.Claims, someClaim(d, 1+d.IntN(2)))
		}
		for by := range d.IntN(3) {
			w.Questions = append(w.Questions, someQuestion(d, by+3))
		}
		if slices.Equal(marksOf(w), someMarks) {
			return w
		}
	}
}

func someQuestion(d *rand.Rand, by int) api.Question {
	q := api.Question{By: by}
	for range 1 + d.IntN(3) {
		var l []api.Claim
		for range d.IntN(3) {
			l = append(l, someClaim(d, by))
		}
		q.Choices = append(q.Choices, l)
	}
	return q
}

// tiedWorld is a world whose marks are tied in all leaves.
func tiedWorld(d *rand.Rand) api.World {
	for {
		w := someWorld(d)
		tied := true
		for _, m := range someMarks[1:] {
			_, hi, e := cases.Bounds(w, 0, m)
			tied = tied && e == api.OK && hi < far
		}
		if tied {
			return w
		}
	}
}

// asideWorld has two parts, of two marks each, which nothing ties but the choices of a question: each tells of both.
func asideWorld(d *rand.Rand) api.World {
	q := api.Question{By: 3}
	for range 2 + d.IntN(2) {
		lo, low := d.IntN(9)-4, d.IntN(9)-4
		q.Choices = append(q.Choices, claims(claim(0, 2, lo, lo+d.IntN(3), 3), claim(7, 8, low, low+d.IntN(3), 3)))
	}
	return world(claims(claim(0, 2, -5, 5, 1), claim(7, 8, -5, 5, 1)), q)
}

func somePiece(d *rand.Rand) api.Piece {
	a, b := somePair(d)
	return piece(a, b, d.IntN(4), d.IntN(3))
}

func somePieces(d *rand.Rand, most int) []api.Piece {
	var l []api.Piece
	for range 1 + d.IntN(most) {
		l = append(l, somePiece(d))
	}
	return l
}

func someAsk(d *rand.Rand) api.Ask {
	a, b := somePair(d)
	return ask(a, b)
}

// marksOf are the marks of a world; none if it has no chronology.
func marksOf(w api.World) []int {
	_, d, _ := cases.Chronology(w, nil)
	var marks []int
	for _, x := range d {
		marks = append(marks, x.Mark)
	}
	return marks
}

// reach is how many years of a mark, either way, the oracle tries: as far apart as tied marks of someWorld can lie.
const reach = 12

// chronologies tries all years of the marks and returns those that all claims at some choices allow.
func chronologies(w api.World) []dates {
	found := map[dates]bool{}
	var choose func(l []api.Claim, questions []api.Question)
	choose = func(l []api.Claim, questions []api.Question) {
		if len(questions) == 0 {
			try(l, 1, dates{}, found)
			return
		}
		for _, choice := range questions[0].Choices {
			choose(slices.Concat(l, choice), questions[1:])
		}
	}
	choose(w.Claims, w.Questions)
	var all []dates
	for x := range found {
		all = append(all, x)
	}
	return all
}

// try gives years to the marks from the index at on, and keeps those that break no claim.
func try(l []api.Claim, at int, x dates, found map[dates]bool) {
	for _, c := range l {
		if max(slices.Index(someMarks, c.A), slices.Index(someMarks, c.B)) < at && (x.between(c.A, c.B) < c.Lo || x.between(c.A, c.B) > c.Hi) {
			return
		}
	}
	if at == len(someMarks) {
		found[x] = true
		return
	}
	for x[at] = -reach; x[at] <= reach; x[at]++ {
		try(l, at+1, x, found)
	}
}

// oracle answers by all chronologies that are left.
type oracle []dates

// counts are the possible counts of a piece, rising.
func (o oracle) counts(p api.Piece) []int {
	var l []int
	for _, x := range o {
		for miss := -p.Miss; miss <= p.Miss; miss++ {
			l = append(l, x.between(p.A, p.B)+miss)
		}
	}
	slices.Sort(l)
	return slices.Compact(l)
}

// behind has the chronologies behind a count.
func (o oracle) behind(p api.Piece, count int) oracle {
	var l oracle
	for _, x := range o {
		if t := x.between(p.A, p.B); t-p.Miss <= count && count <= t+p.Miss {
			l = append(l, x)
		}
	}
	return l
}

// values are the years that are asked for, rising.
func (o oracle) values(q api.Ask) []int {
	var l []int
	for _, x := range o {
		l = append(l, x.between(q.A, q.B))
	}
	slices.Sort(l)
	return slices.Compact(l)
}

// worst is the greatest width behind a count, and the least count that has it.
func (o oracle) worst(p api.Piece, q api.Ask) api.Plan {
	var worst api.Plan
	for _, count := range o.counts(p) {
		if n := len(o.behind(p, count).values(q)); n > worst.Worst {
			worst = api.Plan{Worst: n, Outcome: count}
		}
	}
	return worst
}

// two is what a piece leaves in the worst case, if the best piece is counted behind it.
func (o oracle) two(l []api.Piece, p api.Piece, q api.Ask) api.Plan {
	var worst api.Plan
	for _, count := range o.counts(p) {
		behind := o.behind(p, count)
		least := math.MaxInt
		for _, r := range l {
			least = min(least, behind.worst(r, q).Worst)
		}
		if least > worst.Worst {
			worst = api.Plan{Worst: least, Outcome: count}
		}
	}
	return worst
}

// least is the plan with the least Worst, then the least Cost, then the first one.
func least(l []api.Piece, plans []api.Plan) api.Plan {
	at := 0
	for i, p := range plans {
		if p.Worst < plans[at].Worst || p.Worst == plans[at].Worst && l[i].Cost < l[at].Cost {
			at = i
		}
	}
	plans[at].Piece = at
	return plans[at]
}

// numbers are the years of runs.
func numbers(l []api.Run) []int {
	var out []int
	for _, r := range l {
		for n := r.Lo; n <= r.Hi; n++ {
			out = append(out, n)
		}
	}
	return out
}

// wildWorld is a world of which functions often have an error.
func wildWorld(d *rand.Rand) api.World {
	w := someWorld(d)
	if d.IntN(3) == 0 { // claims at the limits of claims
		c := someClaim(d, 1)
		c.Lo, c.Hi = 100000-d.IntN(9), 100000
		if d.IntN(2) == 0 {
			c.Lo, c.Hi = -c.Hi, -c.Lo
		}
		w = world(claims(c, someClaim(d, 2)), w.Questions...)
	}
	if d.IntN(4) == 0 { // many counts
		w = with(world(nil, w.Questions...), claim(0, 2, 0, 390+d.IntN(20), 2), claim(2, 7, 0, d.IntN(3), 2), claim(8, 2, 0, 0, 3))
	}
	if d.IntN(4) == 0 { // much or little room
		c := someOf(d, w.Claims)
		longest := 0
		for _, q := range w.Questions {
			most := 0
			for _, l := range q.Choices {
				most = max(most, len(l))
			}
			longest += most
		}
		w = with(w, slices.Repeat(claims(c), 400-longest-d.IntN(4)-len(w.Claims))...)
	}
	return w
}

// plainWorst is Worst as the chapter describes it.
func plainWorst(w api.World, p api.Piece, q api.Ask) (api.Plan, api.Errno) {
	counts, e := plan.Outcomes(w, p)
	if e != api.OK {
		return api.Plan{}, e
	}
	if _, e := cases.Has(w, q.A, q.B, 0); e != api.OK {
		return api.Plan{}, e
	}
	if counts[0].Lo == -far || counts[len(counts)-1].Hi == far {
		return api.Plan{}, api.ErrFar
	}
	l := numbers(counts)
	if len(l) > 400 {
		return api.Plan{}, api.ErrLong
	}
	var worst api.Plan
	for _, count := range l {
		behind, e := plan.After(w, p, count)
		if e != api.OK {
			return api.Plan{}, e
		}
		n, e := plan.Width(behind, q)
		if e != api.OK {
			return api.Plan{}, e
		}
		if n > worst.Worst {
			worst = api.Plan{Worst: n, Outcome: count}
		}
	}
	return worst, api.OK
}

// plainBest is Best likewise.
func plainBest(w api.World, l []api.Piece, q api.Ask) (api.Plan, api.Errno) {
	var plans []api.Plan
	for _, p := range l {
		x, e := plainWorst(w, p, q)
		if e != api.OK {
			return api.Plan{}, e
		}
		plans = append(plans, x)
	}
	return least(l, plans), api.OK
}

// plainTwo is Two likewise.
func plainTwo(w api.World, l []api.Piece, q api.Ask) (api.Plan, api.Errno) {
	if _, e := plan.Best(w, l, q); e != api.OK {
		return api.Plan{}, e
	}
	var plans []api.Plan
	for i, p := range l {
		var worst api.Plan
		for _, count := range numbers(first(plan.Outcomes(w, p))) {
			x, e := plan.Second(w, l, q, i, count)
			if e != api.OK {
				return api.Plan{}, e
			}
			if x.Worst > worst.Worst {
				worst = api.Plan{Worst: x.Worst, Outcome: count}
			}
		}
		plans = append(plans, worst)
	}
	return least(l, plans), api.OK
}

func sameWorlds(w, v api.World) bool {
	return slices.Equal(w.Claims, v.Claims) && slices.EqualFunc(w.Questions, v.Questions, func(q, r api.Question) bool {
		return q.By == r.By && slices.EqualFunc(q.Choices, r.Choices, slices.Equal)
	})
}

// copyOf is a world that shares no memory with w.
func copyOf(w api.World) api.World { return cases.Without(w, nil) }

// isChronology reports whether years are a chronology of a world.
func isChronology(w api.World, d []api.Dated) bool {
	_, e := cases.CheckChronology(w, d)
	return e == api.OK
}

// yearsBetween is by how many years b lies below a.
func yearsBetween(d []api.Dated, a, b int) int {
	year := map[int]int{}
	for _, x := range d {
		year[x.Mark] = x.Year
	}
	return year[b] - year[a]
}

type badWorld struct {
	w api.World
	e api.Errno
}

// badWorlds are worlds that are not valid, each with its error.
func badWorlds() []badWorld {
	w, _, _, _ := example()
	long := w
	long.Questions = slices.Repeat([]api.Question{question(3, nil)}, 7)
	return []badWorld{
		{with(w, claim(1, 1, 0, 0, 1)), api.ErrClaim},
		{long, api.ErrLong},
		{full(399), api.ErrLong},
		{world(w.Claims, question(3)), api.ErrQuestion},
	}
}

// badPieces are just beyond each limit; goodPieces just within.
func badPieces() []api.Piece {
	return []api.Piece{
		{}, piece(1, 1, 0, 0), piece(-1, 1, 0, 0), piece(1, -1, 0, 0), piece(2049, 1, 0, 0), piece(1, 2049, 0, 0), piece(0, 1, -1, 0), piece(0, 1, 51, 0), piece(0, 1, 0, -1), piece(0, 1, 0, 1000001),
		piece(math.MinInt, 1, 0, 0), piece(0, math.MaxInt, 0, 0), piece(0, 1, math.MinInt, 0), piece(0, 1, math.MaxInt, 0), piece(0, 1, 0, math.MinInt), piece(0, 1, 0, math.MaxInt),
	}
}

func goodPieces() []api.Piece {
	return []api.Piece{piece(0, 1, 0, 0), piece(1, 0, 50, 1000000), piece(2048, 0, 0, 1), piece(0, 2048, 1, 0), piece(5, 64, 25, 77)}
}

func badAsks() []api.Ask {
	return []api.Ask{{}, ask(1, 1), ask(-1, 0), ask(0, -1), ask(2049, 0), ask(0, 2049), ask(math.MinInt, 0), ask(0, math.MaxInt)}
}

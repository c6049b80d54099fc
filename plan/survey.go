package plan

import (
	"slices"

	"gyttja/api"
	"gyttja/cases"
	"gyttja/mark"
	"gyttja/span"
	"gyttja/years"
)

// told is that the mark at an index b lies Lo to Hi years below the mark at an index a.
type told struct {
	a, b int
	api.Run
}

// bounds are what the claims at a leaf say of marks, by their indices: the mark at j lies at most x[i][j] years below the mark at i, or Far if nothing ties them.
type bounds [][]int

// boundsOf returns the bounds of marks; some of them may not occur in the claims.
func boundsOf(claims []api.Claim, marks []int) bounds {
	net, _ := span.Close(claims)
	places := make([]int, len(marks))
	for i, m := range marks {
		places[i] = slices.Index(net.Marks, m)
	}
	x := make(bounds, len(marks))
	for i, from := range places {
		x[i] = slices.Repeat([]int{api.Far}, len(marks))
		x[i][i] = 0
		for j, to := range places {
			if from != none && to != none {
				x[i][j] = net.Most[from][to]
			}
		}
	}
	return x
}

// between returns the years that the mark at j may lie below the mark at i.
func (x bounds) between(i, j int) api.Run { return api.Run{Lo: -x[j][i], Hi: x[i][j]} }

func (x bounds) allows(t told) bool { return t.Lo <= x[t.a][t.b] && -t.Hi <= x[t.b][t.a] }

// mostBehind is the bound that the mark at j lies below the mark at i, if what is told is so and the other bounds allow it. The least chain of all leads along what is told no more than once, in one direction.
func (x bounds) mostBehind(t told, i, j int) int {
	return min(x[i][j], sum(x[i][t.a], t.Hi, x[t.b][j]), sum(x[i][t.b], -t.Lo, x[t.a][j]))
}

// sum is the bound of two chains and a step between them.
func sum(first, step, last int) int {
	if first == api.Far || last == api.Far {
		return api.Far
	}
	return first + step + last
}

// behind returns all bounds, likewise.
func (x bounds) behind(t told) bounds {
	all := make(bounds, len(x))
	for i := range x {
		all[i] = make([]int, len(x))
		for j := range x {
			all[i][j] = x.mostBehind(t, i, j)
		}
	}
	return all
}

// survey is what a world says of some of its marks, which rise, at its leaves. It answers for the world behind each of many counts, without a look at all claims again.
type survey struct {
	api.World
	marks  []int
	leaves []bounds
}

// surveyOf looks at all leaves; it returns the error of cases.Check.
func surveyOf(w api.World, marks ...int) (survey, api.Errno) {
	leaves, e := cases.Leaves(w)
	if e != api.OK {
		return survey{}, e
	}
	return surveyAt(w, leaves, marks...), api.OK
}

// surveyAt looks at some leaves, and of some marks at those that the world has.
func surveyAt(w api.World, leaves [][]int, marks ...int) survey {
	s := survey{World: w, marks: mark.OfWorld(w)}
	s.marks = slices.DeleteFunc(s.marks, func(m int) bool { return !slices.Contains(marks, m) })
	for _, choices := range leaves {
		claims, _ := cases.At(w, choices)
		s.leaves = append(s.leaves, boundsOf(claims, s.marks))
	}
	s.leaves = distinct(s.leaves)
	return s
}

// distinct leaves one of equal bounds: questions that have nothing to do with the marks make many of them. It changes the list.
func distinct(l []bounds) []bounds {
	slices.SortFunc(l, func(x, y bounds) int { return slices.CompareFunc(x, y, slices.Compare) })
	return slices.CompactFunc(l, func(x, y bounds) bool { return slices.EqualFunc(x, y, slices.Equal) })
}

// place is the index of a mark.
func (s survey) place(m int) int { return slices.Index(s.marks, m) }

func (s survey) has(a, b int) bool { return s.place(a) != none && s.place(b) != none }

// values returns the years that b may lie below a, leaf by leaf.
func (s survey) values(a, b int) []api.Run {
	i, j := s.place(a), s.place(b)
	var l []api.Run
	for _, x := range s.leaves {
		l = append(l, x.between(i, j))
	}
	return l
}

// outcomes returns the counts that a piece may have.
func (s survey) outcomes(p api.Piece) []api.Run {
	return years.Spread(s.values(p.A, p.B), -p.Miss, p.Miss)
}

// told is what a count of a piece says.
func (s survey) told(p api.Piece, count int) told {
	return told{s.place(p.A), s.place(p.B), api.Run{Lo: count - p.Miss, Hi: count + p.Miss}}
}

// valuesBehind returns the years that are asked for behind a count, leaf by leaf.
func (s survey) valuesBehind(p api.Piece, count int, q api.Ask) []api.Run {
	t, i, j := s.told(p, count), s.place(q.A), s.place(q.B)
	l := make([]api.Run, 0, len(s.leaves))
	for _, x := range s.leaves {
		if x.allows(t) {
			l = append(l, api.Run{Lo: -x.mostBehind(t, j, i), Hi: x.mostBehind(t, i, j)})
		}
	}
	return l
}

// behind returns the survey of the world behind a possible count, but for the source of its claim, of which nothing here depends.
func (s survey) behind(p api.Piece, count int) survey {
	c, _ := Claim(p, count, 1)
	t := s.told(p, count)
	next := survey{World: with(s.World, c), marks: s.marks}
	for _, x := range s.leaves {
		if x.allows(t) {
			next.leaves = append(next.leaves, x.behind(t))
		}
	}
	next.leaves = distinct(next.leaves)
	return next
}

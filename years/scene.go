package years

import (
	"iter"
	"slices"

	"gyttja/api"
	"gyttja/cases"
	"gyttja/span"
)

// scene is what the claims at a leaf say of the marks of a field, by their indices: the mark at j lies at most most[i][j] years below the mark at i.
type scene struct {
	field
	most [][]int
}

// stand is that the mark at an index lies in a run of years, and so its event within a period, or not.
type stand struct {
	api.Run
	at int
	in bool
}

// scene returns what the claims at a leaf say.
func (f field) scene(choices []int) scene {
	claims, _ := cases.At(f.World, choices)
	net, _ := span.Close(claims)
	s := scene{f, make([][]int, len(f.marks))}
	for i := range s.most {
		s.most[i] = slices.Repeat([]int{api.Far}, len(f.marks))
		s.most[i][i] = 0
	}
	// Some marks may not occur in the claims: nothing ties them.
	places := make([]int, len(net.Marks))
	for i, m := range net.Marks {
		places[i] = slices.Index(f.marks, m)
	}
	for i, row := range net.Most {
		for j, most := range row {
			s.most[places[i]][places[j]] = most
		}
	}
	return s
}

// ways yields the stands of all ways in which events, of which each takes one of its options, can stand together: that of the mark from which years are counted, and then theirs. The next round changes the list.
func (s scene) ways(options [][]stand) iter.Seq[[]stand] {
	return func(yield func([]stand) bool) {
		s.choose(options, []stand{{at: s.from}}, yield)
	}
}

// choose yields all ways that begin with stands, until yield asks for no more.
func (s scene) choose(options [][]stand, stands []stand, yield func([]stand) bool) (more bool) {
	if len(options) == 0 {
		return yield(stands)
	}
	for _, x := range options[0] {
		if s.allows(x, stands) && !s.choose(options[1:], append(stands, x), yield) {
			return false
		}
	}
	return true
}

// allows reports whether a mark can stand so beside others, of which each two allow each other. Then there is a chronology for all of them: no bound can be lowered by way of a third mark, so stands that contradict each other do so two by two.
func (s scene) allows(x stand, stands []stand) bool {
	for _, y := range stands {
		if x.Lo > y.Hi+s.most[y.at][x.at] || y.Lo > x.Hi+s.most[x.at][y.at] {
			return false
		}
	}
	return true
}

// room returns the years that stands leave to the mark at an index.
func (s scene) room(at int, stands []stand) (lo, hi int) {
	lo, hi = -api.Far, api.Far
	for _, x := range stands {
		lo = max(lo, x.Lo-s.most[at][x.at])
		hi = min(hi, x.Hi+s.most[x.at][at])
	}
	return lo, hi
}

// dated returns a chronology in which marks stand so. Mark by mark, each takes of the years that are left to it the one nearest to the mark from which they are counted.
func (s scene) dated(stands []stand) []api.Dated {
	stands = slices.Clone(stands)
	d := make([]api.Dated, len(s.marks))
	for at, m := range s.marks {
		lo, hi := s.room(at, stands)
		year := max(lo, min(hi, 0))
		stands = append(stands, stand{Run: api.Run{Lo: year, Hi: year}, at: at})
		d[at] = api.Dated{Mark: m, Year: year}
	}
	begin := d[0].Year // that of the datum, if it is a mark: its year must be 0
	for at := range d {
		d[at].Year -= begin
	}
	return d
}

// inside is how many events lie within the period.
func inside(stands []stand) int {
	n := 0
	for _, x := range stands {
		if x.in {
			n++
		}
	}
	return n
}

package desk_test

import (
	"fmt"
	"slices"
	"strings"
	"testing"

	"gyttja/api"
	"gyttja/cases"
	"gyttja/desk"
	"gyttja/proof"
	"gyttja/years"
)

// yearOf is the year of a mark in a chronology.
func yearOf(l []api.Dated, mark int) int {
	i := slices.IndexFunc(l, func(x api.Dated) bool { return x.Mark == mark })
	return l[i].Year
}

// P10.3, P2: each chronology of what a book says lets each event lie in years of `when`, and each year of `when` is that of the event in some chronology.
func TestExactYears(t *testing.T) {
	d := dice(12)
	shown, found := 0, 0
	for range 400 {
		x := write(someBook(d, 10+d.IntN(10)))
		k := desk.Know(x.Book(0), 9)
		for _, v := range k.Events {
			from := pick(d, 0, 1, 2, 65)
			answer := done(x, fmt.Sprintf("0 9 when %d %d", v.Id, from))
			if strings.HasPrefix(answer, "error") {
				continue
			}
			var runs []api.Run
			for line := range strings.SplitSeq(answer, "|") {
				var r api.Run
				fmt.Sscan(line, &r.Lo, &r.Hi)
				runs = append(runs, r)
			}
			for range 5 {
				_, l, e := cases.Chronology(k.World, []int{d.Int(), d.Int(), d.Int(), d.Int()})
				if e != api.OK {
					t.Fatal(k, e)
				}
				for _, n := range []int{v.Lo, v.Hi, v.Lo + d.IntN(v.Hi-v.Lo+1)} {
					year := yearOf(l, v.Mark) - yearOf(l, from) + n
					if !years.Has(runs, year) {
						t.Fatal(k, v, from, year, answer)
					}
					shown++
				}
			}
			for _, r := range runs {
				for _, year := range []int{max(r.Lo, -1000), min(r.Hi, 1000), (max(r.Lo, -1000) + min(r.Hi, 1000)) / 2} {
					_, l, e := years.Attain(k.World, v, from, year)
					if e != api.OK {
						t.Fatal(k, v, from, year, e)
					}
					if _, e := cases.CheckChronology(k.World, l); e != api.OK {
						t.Fatal(k, l, e)
					}
					if n := year - yearOf(l, v.Mark) + yearOf(l, from); n < v.Lo || n > v.Hi {
						t.Fatal(k, v, from, year, l)
					}
					found++
				}
			}
		}
	}
	if shown < 2000 || found < 500 {
		t.Error(shown, found)
	}
}

// saidBy is what a source says in a world.
func saidBy(w api.World, by int) string {
	var l []any
	for _, c := range w.Claims {
		if c.By == by {
			l = append(l, c)
		}
	}
	for _, q := range w.Questions {
		if q.By == by {
			l = append(l, q)
		}
	}
	return tell(l)
}

// P10.5, P5: a bound that was proven holds at each other hour at which all sources of its proof say the same, or there is no chronology.
func TestTakenBack(t *testing.T) {
	d := dice(13)
	marks := []int{0, 1, 2, 65, 66}
	held := 0
	for range 1500 {
		b := someBook(d, 8+d.IntN(14))
		hour, other := d.IntN(10), d.IntN(10)
		w, v := desk.Know(b, hour).World, desk.Know(b, other).World
		p, e := proof.Prove(w, pick(d, marks...), pick(d, marks...))
		if e != api.OK || p.A == p.B {
			continue
		}
		sources := first(proof.Sources(w, p.Nodes))
		if slices.ContainsFunc(sources, func(by int) bool { return saidBy(w, by) != saidBy(v, by) }) {
			continue
		}
		_, most, e := cases.Bounds(v, p.A, p.B)
		if e != api.ErrChronology && (e != api.OK || most > p.Most) {
			t.Fatal(b, hour, other, p, most, e)
		}
		if e == api.OK && hour != other {
			held++
		}
	}
	if held < 100 {
		t.Error(held)
	}
}

// P10.6, P4: what `conflict` names cannot all be right, and without the entry of any one of them the others are no conflict.
func TestConflicts(t *testing.T) {
	d := dice(14)
	found := 0
	for range 600 {
		b := someBook(d, 8+d.IntN(12))
		x := write(b)
		answer := done(x, "0 9 conflict")
		if answer == "none" {
			continue
		}
		found++
		var sources []int
		for name := range strings.SplitSeq(answer, " ") {
			var p api.Place
			fmt.Sscanf(name, "%d:%d", &p.Office, &p.Seq)
			sources = append(sources, desk.Source(p))
		}
		w := desk.Know(x.Book(0), 9).World
		if e := cases.CheckConflict(w, sources); e != api.OK || !slices.IsSorted(sources) {
			t.Fatal(w, sources, e)
		}
		for i, by := range sources {
			others := slices.Delete(slices.Clone(sources), i, i+1)
			y := write(b)
			p, _ := desk.PlaceOf(by)
			done(y, fmt.Sprintf("0 10 withdraw 1 %d %d", p.Office, p.Seq))
			v := desk.Know(y.Book(0), 10).World
			left := slices.DeleteFunc(cases.Sources(v), func(by int) bool { return slices.Contains(others, by) })
			if slices.Contains(cases.Sources(v), by) {
				t.Fatal(b, by, v)
			}
			if l, e := cases.Leaves(cases.Without(v, left)); len(l) == 0 || e != api.OK {
				t.Fatal(b, by, v, e)
			}
		}
	}
	if found < 60 {
		t.Error(found)
	}
}

// P10.4, P6: equal books say the same, whatever happened ahead of it: here one is written at once, and one over crashes, packs and sends.
func TestSameBooks(t *testing.T) {
	d := dice(15)
	for range 60 {
		b := someBook(d, 15)
		x := write(b)
		y := newDesk(3)
		for i, e := range x.Book(0).Entries {
			c := api.Command{Office: e.At.Office, Hour: e.Hour, Kind: e.Kind, Args: []int{e.Reader}, Text: e.Text}
			if e.Kind > api.EntNote {
				c.Args = append(c.Args, e.Of.Office, e.Of.Seq)
			}
			lost := command(fmt.Sprint(e.At.Office, ` 3 note 1 "lost"`))
			y.Do(lost)
			done(y, fmt.Sprint(e.At.Office, " 0 crash 0 0"))
			y.Do(c)
			done(y, fmt.Sprint(e.At.Office, " 0 ", pick(d, "sync", "pack")), fmt.Sprint(e.At.Office, " 0 send ", (e.At.Office+1+i%2)%3))
		}
		for range 2 {
			done(y, "1 0 send 0", "2 0 send 0", "1 0 send 2", "0 0 send 1", "0 0 send 2", "2 0 send 1")
		}
		for office := range 3 {
			if !slices.Equal(x.Book(0).Entries, y.Book(office).Entries) {
				t.Fatal(b, y.Book(office))
			}
			for _, query := range queries {
				line := fmt.Sprint(" ", d.IntN(11), " ", query)
				if one, other := done(x, "0"+line), done(y, fmt.Sprint(office, line)); one != other {
					t.Fatal(b, line, one, other)
				}
			}
		}
	}
}

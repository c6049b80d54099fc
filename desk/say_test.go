package desk_test

import (
	"slices"
	"testing"

	"gyttja/api"
	"gyttja/ash"
	"gyttja/desk"
	"gyttja/lay"
	"gyttja/sheet"
)

// P10.2: each valid place has a source of its own, and PlaceOf finds it.
func TestSources(t *testing.T) {
	if by := desk.Source(place(2, 7)); by != 20008 {
		t.Error(by)
	}
	if p, is := desk.PlaceOf(20008); p != place(2, 7) || !is {
		t.Error(p, is)
	}
	by := 0
	for office := range 8 {
		for seq := range 10000 {
			by++
			p := place(office, seq)
			if got := desk.Source(p); got != by {
				t.Fatal(p, got)
			}
			if got, is := desk.PlaceOf(by); got != p || !is {
				t.Fatal(by, got, is)
			}
		}
	}
	for _, p := range []api.Place{place(-1, 0), place(8, 0), place(0, -1), place(0, 10000), place(3, 10000), place(7, 10000)} {
		if got := desk.Source(p); got != 0 {
			t.Error(p, got)
		}
	}
	for _, n := range extremes {
		p, is := desk.PlaceOf(n)
		if may := 1 <= n && n <= 80000; is != may || !may && p != (api.Place{}) {
			t.Error(n, p, is)
		}
		for _, m := range extremes {
			if may := 0 <= n && n <= 7 && 0 <= m && m <= 9999; may != (desk.Source(place(n, m)) > 0) || !may && desk.Source(place(n, m)) != 0 {
				t.Error(n, m)
			}
		}
	}
}

func sheetOf(text string) api.Sheet {
	s, at, e := sheet.Parse(text)
	if e != api.OK {
		panic(at)
	}
	return s
}

// P10.2, R1: the spans of a sheet, with the source; ErrArg is ahead of the sheet's error.
func TestSheetClaims(t *testing.T) {
	s := sheetOf("sheet 7 reader 3 core 2\nmark 5\nyear 120\npair 80 95\nmark 6\nslump 2\nbed 300\ngap 1 3\nmark 9\n")
	want := []api.Claim{claim(134, 135, 2, 3, 9), claim(135, 138, 1, 5, 9)}
	if l, e := desk.SheetClaims(s, 9); !slices.Equal(l, want) || e != api.OK {
		t.Error(l, e)
	}
	for _, by := range []int{1, 99999} {
		if l, e := desk.SheetClaims(s, by); len(l) != 2 || l[0].By != by || l[1].By != by || e != api.OK {
			t.Error(by, l, e)
		}
	}
	for _, text := range []string{"sheet 7 reader 3 core 2", "sheet 7 reader 3 core 2\nyear 5\nmark 3\nyear 4"} {
		if l, e := desk.SheetClaims(sheetOf(text), 9); len(l) != 0 || e != api.OK {
			t.Error(l, e)
		}
	}
	bad := s
	bad.Id = 0
	for _, c := range []struct {
		s  api.Sheet
		by int
		e  api.Errno
	}{{s, 0, api.ErrArg}, {s, 100000, api.ErrArg}, {bad, 0, api.ErrArg}, {bad, 5, api.ErrSheet}, {api.Sheet{Id: 1, Reader: 1, Rows: []api.Row{{Kind: 9}}}, 5, api.ErrRow}, {api.Sheet{Id: 1, Reader: 1, Rows: []api.Row{{Kind: 1, N: 2}, {Kind: 1, N: 1}}}, 5, api.ErrOrder}} {
		if l, e := desk.SheetClaims(c.s, c.by); len(l) != 0 || e != c.e {
			t.Error(c, l, e)
		}
	}
}

func besideOf(text string) api.Beside {
	j, at, e := desk.ParseJoin(text)
	if e != api.OK {
		panic(at)
	}
	return j
}

// P10.2: the chapter's example, and one with two offsets: {1, 0, 1} and {3, 2, 3}.
func TestJoinQuestion(t *testing.T) {
	q, e := desk.JoinQuestion(besideOf(joinText), 9)
	want := api.Question{By: 9, Choices: [][]api.Claim{{claim(1, 2, 2, 2, 9), claim(1, 65, 1, 1, 9), claim(1, 66, 3, 3, 9)}}}
	if tell(q) != tell(want) || e != api.OK {
		t.Error(q, e)
	}
	q, e = desk.JoinQuestion(besideOf(openText), 99999)
	want = api.Question{By: 99999, Choices: [][]api.Claim{
		{claim(1, 2, 2, 2, 99999), claim(1, 65, 0, 0, 99999), claim(1, 66, 2, 2, 99999)},
		{claim(1, 2, 4, 4, 99999), claim(1, 65, 2, 2, 99999), claim(1, 66, 4, 4, 99999)},
	}}
	if tell(q) != tell(want) || e != api.OK {
		t.Error(q, e)
	}
}

// P10.2, R7: ErrNone without a join; ErrLong if there are more than 60 offsets.
func TestLimitsOfJoins(t *testing.T) {
	j := besideOf("join 0 0 2\nx 1 2 50 60\ny 65 66 60 70\n")
	if q, e := desk.JoinQuestion(j, 1); tell(q) != tell(api.Question{}) || e != api.ErrNone {
		t.Error(q, e)
	}
	for _, c := range []struct {
		x, y          []int
		offsets, most int
		e             api.Errno
	}{
		{[]int{1, 2, 1, 2, 1, 2, 2, 1}, []int{1, 2, 2, 2, 1, 2, 2}, 60, 60, api.OK},
		{[]int{1, 1, 1, 1, 2, 1, 2, 2}, []int{1, 1, 1, 1, 2, 2, 2, 1}, 61, 0, api.ErrLong},
		{slices.Repeat([]int{1}, 24), slices.Repeat([]int{1}, 24), 227, 0, api.ErrLong},
	} {
		j := api.Beside{Rule: api.Rule{Tol: 1, Edits: 1, Overlap: 1}, A: 1, B: 2, C: 65, D: 66, X: c.x, Y: c.y}
		if l, _ := lay.Offsets(first(lay.Weave(c.x, c.y, j.Rule))); len(l) != c.offsets {
			t.Error(c, len(l))
		}
		q, e := desk.JoinQuestion(j, 1)
		if len(q.Choices) != c.most || e != c.e || e != api.OK && tell(q) != tell(api.Question{}) {
			t.Error(c, len(q.Choices), e)
		}
	}
}

// P10.2, P7: the choices are what all allowed joins say of the marks: ahead of the first layers, and behind the last ones.
func TestJoinsOfQuestion(t *testing.T) {
	d := dice(3)
	found := 0
	for range 300 {
		j := someBeside(d)
		j.Rule = api.Rule{Tol: d.IntN(2), Edits: d.IntN(3), Overlap: 1 + d.IntN(2)}
		for _, x := range [][]int{j.X, j.Y} {
			for i := range x {
				x[i] = 1 + d.IntN(3)
			}
		}
		j.X, j.Y = j.X[:min(len(j.X), 5)], j.Y[:min(len(j.Y), 5)]
		w := first(lay.Weave(j.X, j.Y, j.Rule))
		all := map[[3]int]bool{}
		for n := range first(lay.Count(w)) {
			xs, ys, _ := lay.Years(j.X, j.Y, first(lay.Nth(w, n)))
			all[[3]int{xs[len(xs)-1], ys[0], ys[len(ys)-1]}] = true
		}
		q, e := desk.JoinQuestion(j, 4)
		if len(all) == 0 {
			if e != api.ErrNone {
				t.Fatal(j, q, e)
			}
			continue
		}
		if len(all) > 60 {
			continue
		}
		found++
		var last [3]int
		for i, choice := range q.Choices {
			o := [3]int{choice[0].Lo - 1, choice[1].Lo, choice[2].Lo - 1}
			want := []api.Claim{claim(j.A, j.B, o[0]+1, o[0]+1, 4), claim(j.A, j.C, o[1], o[1], 4), claim(j.A, j.D, o[2]+1, o[2]+1, 4)}
			if !slices.Equal(choice, want) || !all[o] || i > 0 && slices.Compare(last[:], o[:]) >= 0 {
				t.Fatal(j, choice)
			}
			last = o
		}
		if len(q.Choices) != len(all) || q.By != 4 || e != api.OK {
			t.Fatal(j, q, e)
		}
	}
	if found < 150 {
		t.Error(found)
	}
}

// P10.2, P7: the choices are the claims of all allowed cases, in order.
func TestAshQuestion(t *testing.T) {
	f, _, _ := desk.ParseAsh(ashText)
	q, e := desk.AshQuestion(f, 9)
	want := api.Question{By: 9, Choices: [][]api.Claim{
		{claim(1, 65, 0, 0, 9), claim(2, 66, 0, 0, 9)}, {claim(1, 65, 0, 0, 9)}, {claim(2, 65, 0, 0, 9)}, {claim(1, 66, 0, 0, 9)}, {claim(2, 66, 0, 0, 9)}, {},
	}}
	if tell(q) != tell(want) || e != api.OK {
		t.Error(q, e)
	}
	if q, e := desk.AshQuestion(api.Falls{}, 99999); tell(q) != tell(api.Question{By: 99999, Choices: [][]api.Claim{nil}}) || e != api.OK {
		t.Error(q, e)
	}
	d := dice(4)
	for range 300 {
		f := someFalls(d)
		f.Ashes = f.Ashes[:min(len(f.Ashes), 5)]
		f.Ties = nil
		if n := len(f.Ashes); n > 1 && d.IntN(2) == 0 {
			f.Ties = []api.Tie{{A: f.Ashes[0].Id, B: f.Ashes[n-1].Id, Same: d.IntN(2) == 0}}
		}
		all := first(ash.Cases(f.Ashes, f.Ties))
		want := api.Question{By: 4}
		for _, c := range all {
			want.Choices = append(want.Choices, first(ash.Claims(f.Ashes, c, 4)))
		}
		q, e := desk.AshQuestion(f, 4)
		switch {
		case len(all) == 0:
			if tell(q) != tell(api.Question{}) || e != api.ErrNone {
				t.Fatal(f, q, e)
			}
		case len(all) > 60:
			if tell(q) != tell(api.Question{}) || e != api.ErrLong {
				t.Fatal(f, q, e)
			}
		default:
			if tell(q) != tell(want) || e != api.OK {
				t.Fatal(f, q, e)
			}
		}
	}
}

// ashes are so many, each of a core of its own, that may be one fall.
func ashes(n int) api.Falls {
	var f api.Falls
	for i := range n {
		f.Ashes = append(f.Ashes, api.Ash{Id: i + 1, Mark: 64*i + 1, Grain: grain(1, 2, 1, 2, 1, 2)})
	}
	return f
}

// P10.2, R7: at most 60 choices: five ashes have 52 cases, six have 203 (which ash.Cases still tells), nine more than that.
func TestLimitsOfAshes(t *testing.T) {
	for n, want := range map[int]int{0: 1, 1: 1, 2: 2, 5: 52} {
		if q, e := desk.AshQuestion(ashes(n), 1); len(q.Choices) != want || e != api.OK {
			t.Error(n, len(q.Choices), e)
		}
	}
	for _, n := range []int{6, 9} {
		if q, e := desk.AshQuestion(ashes(n), 1); tell(q) != tell(api.Question{}) || e != api.ErrLong {
			t.Error(n, len(q.Choices), e)
		}
	}
	sixty, _, _ := desk.ParseAsh("ash 1 321 2 5 1 1 1 1\nash 2 194 0 1 1 1 1 1\nash 3 3 0 2 1 1 1 1\nash 4 196 1 4 1 1 1 1\nash 5 69 1 2 1 1 1 1\nash 6 198 2 4 1 1 1 1")
	if q, e := desk.AshQuestion(sixty, 1); len(q.Choices) != 60 || e != api.OK {
		t.Error(len(q.Choices), e)
	}
	more, _, _ := desk.ParseAsh("ash 1 321 1 2 1 1 1 1\nash 2 322 0 1 1 1 1 1\nash 3 323 2 3 1 1 1 1\nash 4 260 2 3 1 1 1 1\nash 5 5 0 3 1 1 1 1\nash 6 326 2 3 1 1 1 1\nash 7 7 2 4 1 1 1 1")
	if n, _ := ash.Count(more.Ashes, more.Ties); n != 61 {
		t.Error(n)
	}
	if q, e := desk.AshQuestion(more, 1); tell(q) != tell(api.Question{}) || e != api.ErrLong {
		t.Error(len(q.Choices), e)
	}
	f := ashes(2)
	f.Ties = []api.Tie{{A: 1, B: 2, Same: true}, {A: 1, B: 2}}
	if q, e := desk.AshQuestion(f, 1); tell(q) != tell(api.Question{}) || e != api.ErrNone {
		t.Error(q, e)
	}
}

package span_test

import (
	"slices"
	"testing"

	"gyttja/api"
	"gyttja/span"
)

// P2.1: claims that are valid, at the limits too.
func TestCheckClaim(t *testing.T) {
	for _, c := range []api.Claim{
		claim(0, 2048, 0, 0, 1), claim(2048, 0, 0, 0, 99999), claim(1, 2, -100000, 100000, 1), claim(1, 2, -100000, -100000, 1),
		claim(1, 2, 100000, 100000, 1), claim(2, 1, -1, 0, 5),
	} {
		if e := span.CheckClaim(c); e != api.OK {
			t.Error(c, e)
		}
		if e := span.Check([]api.Claim{c}); e != api.OK {
			t.Error(c, e)
		}
	}
}

// P2.1: claims that are not valid.
func TestCheckClaimNotValid(t *testing.T) {
	for _, c := range []api.Claim{
		{}, claim(3, 3, 0, 0, 1), claim(0, 0, 0, 0, 1), claim(-1, 3, 0, 0, 1), claim(3, -1, 0, 0, 1), claim(2049, 3, 0, 0, 1), claim(3, 2049, 0, 0, 1),
		claim(1, 2, 1, 0, 1), claim(1, 2, -1, -2, 1), claim(1, 2, -100001, 0, 1), claim(1, 2, 0, 100001, 1), claim(1, 2, 100001, 100001, 1), claim(1, 2, -100001, -100001, 1),
		claim(1, 2, 0, 0, 0), claim(1, 2, 0, 0, -1), claim(1, 2, 0, 0, 100000),
	} {
		if e := span.CheckClaim(c); e != api.ErrClaim {
			t.Error(c, e)
		}
		if e := span.Check([]api.Claim{claim(1, 2, 0, 0, 1), c}); e != api.ErrClaim {
			t.Error(c, e)
		}
	}
}

// P2.1: lists at the limits, and those that are not valid, with their errors in order.
func TestCheck(t *testing.T) {
	for _, l := range [][]api.Claim{
		nil, {}, example(), contradiction(), apart(), repeat(claim(1, 2, 0, 0, 1), 400), chainOf(64, 0, 0), append(chainOf(63, 0, 0), claim(0, 1, 0, 0, 1)),
		append(chainOf(62, 0, 0), claim(100, 101, 0, 0, 1)),
	} {
		if e := span.Check(l); e != api.OK {
			t.Error(l, e)
		}
	}
	for name, c := range badLists() {
		if e := span.Check(c.l); e != c.e {
			t.Error(name, e)
		}
	}
}

// P2.1: marks and sources rise, each once.
func TestMarksAndSources(t *testing.T) {
	for _, c := range []struct {
		l              []api.Claim
		marks, sources []int
	}{
		{nil, nil, nil},
		{[]api.Claim{}, nil, nil},
		{example(), []int{0, 5, 6, 9}, []int{1, 2, 3, 4}},
		{contradiction(), []int{0, 5, 6, 9}, []int{1, 2, 3, 4, 7}},
		{[]api.Claim{claim(9, 3, 0, 0, 5), claim(3, 9, 0, 0, 2), claim(2048, 0, 0, 0, 5)}, []int{0, 3, 9, 2048}, []int{2, 5}},
		{[]api.Claim{claim(9, 3, 0, 0, 5), claim(1, 1, 0, 0, 1)}, nil, nil},
		{chainOf(65, 0, 0), nil, nil},
		{repeat(claim(1, 2, 0, 0, 1), 401), nil, nil},
	} {
		if m := span.Marks(c.l); !slices.Equal(m, c.marks) {
			t.Error("Marks", c.l, m)
		}
		if s := span.Sources(c.l); !slices.Equal(s, c.sources) {
			t.Error("Sources", c.l, s)
		}
	}
}

// P2.1: Without takes any list, valid or not.
func TestWithout(t *testing.T) {
	x, y, bad := claim(1, 2, 0, 0, 1), claim(2, 3, 0, 0, 2), api.Claim{A: 4, B: 4, By: -3}
	for _, c := range []struct {
		l    []api.Claim
		by   []int
		want []api.Claim
	}{
		{nil, nil, nil}, {nil, []int{1}, nil}, {[]api.Claim{x, y}, nil, []api.Claim{x, y}}, {[]api.Claim{x, y}, []int{}, []api.Claim{x, y}},
		{example(), []int{4, 1, 8}, example()[1:3]}, {[]api.Claim{y, x, y, x, bad}, []int{1, 1}, []api.Claim{y, y, bad}},
		{[]api.Claim{y, x, bad, y}, []int{2}, []api.Claim{x, bad}}, {[]api.Claim{bad, {}, x}, []int{-3}, []api.Claim{{}, x}}, {[]api.Claim{{}, x}, []int{0}, []api.Claim{x}},
		{[]api.Claim{x, y, x}, []int{2, 1}, nil}, {repeat(x, 500), []int{2}, repeat(x, 500)},
	} {
		if l := span.Without(c.l, c.by); !slices.Equal(l, c.want) {
			t.Error(c, l)
		}
	}
}

// P2.1: parts, also of claims that have no chronology.
func TestParts(t *testing.T) {
	for _, c := range []struct {
		l    []api.Claim
		want [][]int
	}{
		{nil, nil},
		{example(), [][]int{{0, 5, 6, 9}}},
		{contradiction(), [][]int{{0, 5, 6, 9}}},
		{apart(), [][]int{{0, 5, 6, 9}, {2, 7}}},
		{[]api.Claim{claim(1, 9, 0, 0, 1), claim(2, 8, 0, 0, 1), claim(3, 7, 0, 0, 1), claim(9, 4, 0, 0, 1), claim(7, 6, 0, 0, 1)}, [][]int{{1, 4, 9}, {2, 8}, {3, 6, 7}}},
		{[]api.Claim{claim(8, 9, 0, 0, 1), claim(6, 7, 0, 0, 1), claim(7, 9, 0, 0, 1), claim(1, 8, 0, 0, 1)}, [][]int{{1, 6, 7, 8, 9}}},
		{[]api.Claim{claim(1, 2, 0, 0, 1), claim(3, 3, 0, 0, 1)}, nil},
		{chainOf(65, 0, 0), nil},
	} {
		if p := span.Parts(c.l); !slices.EqualFunc(p, c.want, slices.Equal) {
			t.Error(c, p)
		}
	}
	if p := span.Parts(chainOf(64, 0, 0)); len(p) != 1 || len(p[0]) != 64 {
		t.Error(p)
	}
	// A part whose marks lie in an order that no single look at the claims finds.
	var zigzag []api.Claim
	for i := range 31 {
		zigzag = append(zigzag, claim(i+1, 64-i, 0, 0, 1), claim(64-i, i+2, 0, 0, 1))
	}
	slices.Reverse(zigzag)
	if p := span.Parts(zigzag); len(p) != 1 || len(p[0]) != 63 {
		t.Error(p)
	}
}

// P2.1: marks are in one part if and only if a chain leads from one to the other.
func TestPartsOfSomeLists(t *testing.T) {
	d := dice(11)
	for range 300 {
		var l []api.Claim
		for range 1 + d.IntN(12) {
			a := d.IntN(20)
			l = append(l, claim(a, (a+1+d.IntN(19))%20, 0, 0, 1))
		}
		parts := span.Parts(l)
		var marks, firsts []int
		for _, p := range parts {
			whole := tiedTo(l, p[0])
			slices.Sort(whole)
			if !slices.Equal(whole, p) {
				t.Fatal(l, parts)
			}
			marks = append(marks, p...)
			firsts = append(firsts, p[0])
		}
		slices.Sort(marks)
		if !slices.Equal(marks, marksIn(l)) || !slices.IsSorted(firsts) {
			t.Fatal(l, parts)
		}
	}
}

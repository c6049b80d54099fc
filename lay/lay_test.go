package lay_test

import (
	"slices"
	"testing"

	"gyttja/api"
	"gyttja/lay"
)

// P3.1: pieces that are valid.
func TestCheckPiece(t *testing.T) {
	for _, c := range []struct {
		x []int
		e api.Errno
	}{
		{nil, api.ErrPiece}, {[]int{}, api.ErrPiece}, {[]int{1}, api.OK}, {[]int{100000}, api.OK}, {[]int{1, 100000, 7}, api.OK},
		{[]int{0}, api.ErrPiece}, {[]int{-1}, api.ErrPiece}, {[]int{100001}, api.ErrPiece}, {[]int{1, 2, 0}, api.ErrPiece}, {[]int{0, 1, 2}, api.ErrPiece}, {[]int{1, 100001, 2}, api.ErrPiece},
		{alike(24), api.OK}, {alike(25), api.ErrPiece}, {extremes, api.ErrPiece}, {slices.Repeat([]int{100000}, 24), api.OK}, {alike(1000), api.ErrPiece},
	} {
		if e := lay.CheckPiece(c.x); e != c.e {
			t.Error(c, e)
		}
	}
}

// P3.1: rules that are valid.
func TestCheckRule(t *testing.T) {
	for _, tol := range extremes {
		for _, edits := range extremes {
			for _, overlap := range extremes {
				valid := tol >= 0 && tol <= 100000 && edits >= 0 && edits <= 6 && overlap >= 1 && overlap <= 24
				if e := lay.CheckRule(api.Rule{Tol: tol, Edits: edits, Overlap: overlap}); valid != (e == api.OK) || !valid && e != api.ErrRule {
					t.Error(tol, edits, overlap, e)
				}
			}
		}
	}
}

// P3.1: the chapter's examples, and further operations on the same pieces.
func TestFits(t *testing.T) {
	x, y, _ := example()
	for _, c := range []struct {
		i, j, op, tol int
		want          bool
	}{
		{0, 0, twoX, 0, true}, {0, 0, both, 19, false}, {0, 0, both, 20, true},
		{2, 1, both, 0, true}, {1, 1, both, 14, false}, {1, 1, both, 15, true}, {1, 0, both, 9, false}, {1, 0, both, 10, true},
		{1, 0, twoX, 4, false}, {1, 0, twoX, 5, true}, {2, 0, twoX, 100000, false}, {3, 0, twoX, 100000, false},
		{0, 0, twoY, 24, false}, {0, 0, twoY, 25, true}, {1, 0, twoY, 14, false}, {1, 0, twoY, 15, true}, {1, 1, twoY, 100000, false}, {3, 0, twoY, 100000, false},
		{0, 0, onlyX, 0, true}, {1, 1, onlyX, 0, true}, {2, 2, onlyX, 0, true}, {3, 0, onlyX, 0, false}, {0, 0, onlyY, 0, true}, {3, 1, onlyY, 0, true}, {1, 2, onlyY, 0, false},
		{0, 0, hangX, 0, true}, {2, 0, hangX, 0, true}, {1, 1, hangX, 0, false}, {1, 2, hangX, 0, true}, {3, 2, hangX, 0, false}, {3, 0, hangX, 0, false},
		{0, 0, hangY, 0, true}, {0, 1, hangY, 0, true}, {1, 1, hangY, 0, false}, {3, 1, hangY, 0, true}, {3, 2, hangY, 0, false}, {0, 2, hangY, 0, false},
		{3, 2, both, 100000, false}, {2, 2, both, 100000, false}, {3, 1, both, 100000, false},
		{0, 0, 0, 0, false}, {0, 0, 8, 0, false}, {0, 0, -1, 0, false}, {-1, 0, onlyX, 0, false}, {0, -1, onlyY, 0, false}, {4, 0, onlyY, 0, false}, {0, 3, onlyX, 0, false},
		{0, 0, onlyX, -1, false}, {0, 0, onlyX, 100000, true}, {0, 0, onlyX, 100001, false}, {0, 0, hangX, -1, false},
	} {
		if got := lay.Fits(x, y, c.i, c.j, c.op, c.tol); got != c.want {
			t.Error(c, got)
		}
	}
	for _, bad := range [][]int{nil, {}, {0}, alike(25), {5, 100001}} {
		if lay.Fits(bad, y, 0, 0, onlyY, 0) || lay.Fits(x, bad, 0, 0, onlyX, 0) {
			t.Error(bad)
		}
	}
	thick := []int{100000, 100000}
	if lay.Fits(thick, []int{1}, 0, 0, twoX, 100000) || !lay.Fits(thick, []int{100000}, 0, 0, twoX, 100000) || !lay.Fits([]int{100000}, thick, 0, 0, twoY, 100000) {
		t.Error("thick layers")
	}
}

// P3.1: Fits of all arguments agrees with the table of operations.
func TestFitsOfAll(t *testing.T) {
	d := dice(11)
	for range 200 {
		x, y, tol := somePiece(d, 4), somePiece(d, 4), d.IntN(4)
		for i := -1; i <= len(x)+1; i++ {
			for j := -1; j <= len(y)+1; j++ {
				for op := -1; op <= 9; op++ {
					if got, want := lay.Fits(x, y, i, j, op, tol), maySay(x, y, i, j, op, tol); got != want {
						t.Fatal(x, y, i, j, op, tol, got)
					}
				}
			}
		}
	}
}

// maySay tells from the words of the chapter, operation by operation.
func maySay(x, y []int, i, j, op, tol int) bool {
	if i < 0 || j < 0 || i > len(x) || j > len(y) {
		return false
	}
	moreX, moreY := x[i:], y[j:]
	near := func(a, b int) bool { return a-b <= tol && b-a <= tol }
	switch op {
	case both:
		return len(moreX) >= 1 && len(moreY) >= 1 && near(moreX[0], moreY[0])
	case onlyX:
		return len(moreX) >= 1
	case onlyY:
		return len(moreY) >= 1
	case twoX:
		return len(moreX) >= 2 && len(moreY) >= 1 && near(moreX[0]+moreX[1], moreY[0])
	case twoY:
		return len(moreX) >= 1 && len(moreY) >= 2 && near(moreX[0], moreY[0]+moreY[1])
	case hangX:
		return len(moreX) >= 1 && (j == 0 || len(moreY) == 0)
	case hangY:
		return len(moreY) >= 1 && (i == 0 || len(moreX) == 0)
	}
	return false
}

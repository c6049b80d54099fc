package pick_test

import (
	"math"
	"testing"

	"gyttja/pick"
)

// R10: numbers are taken one after the other, from the first one again behind the last one, each modulo the candidates.
func TestIndex(t *testing.T) {
	for _, c := range []struct {
		picks                   []int
		taken, candidates, want int
	}{
		{nil, 0, 5, 0}, {[]int{}, 3, 5, 0},
		{[]int{2, 7, -1}, 0, 3, 2}, {[]int{2, 7, -1}, 1, 3, 1}, {[]int{2, 7, -1}, 2, 3, 2}, {[]int{2, 7, -1}, 3, 3, 2}, {[]int{2, 7, -1}, 400, 6, 1},
		{[]int{5}, 0, 5, 0}, {[]int{-5}, 0, 5, 0}, {[]int{-6}, 0, 5, 4}, {[]int{9}, 0, 1, 0}, {[]int{9}, 0, 0, 0},
		{[]int{math.MaxInt}, 0, 10, 7}, {[]int{math.MinInt}, 0, 10, 2}, {[]int{math.MinInt}, 0, 1, 0},
	} {
		if n := pick.Index(c.picks, c.taken, c.candidates); n != c.want {
			t.Error(c, n)
		}
	}
}

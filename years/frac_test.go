package years_test

import (
	"math"
	"math/big"
	"slices"
	"testing"

	"gyttja/api"
	"gyttja/years"
)

func frac(n, d int) api.Frac { return api.Frac{N: n, D: d} }

// rat is a fraction that is exact.
func rat(f api.Frac) *big.Rat { return big.NewRat(int64(f.N), int64(f.D)) }

// is reports whether a fraction is a number in lowest terms.
func is(f api.Frac, x *big.Rat) bool {
	return x.Num().Cmp(big.NewInt(int64(f.N))) == 0 && x.Denom().Cmp(big.NewInt(int64(f.D))) == 0
}

// P6.1: fractions in lowest terms.
func TestMake(t *testing.T) {
	for _, c := range []struct {
		n, d int
		want api.Frac
		e    api.Errno
	}{
		{6, -4, frac(-3, 2), api.OK}, {0, -7, frac(0, 1), api.OK}, {0, 1, frac(0, 1), api.OK}, {-6, -4, frac(3, 2), api.OK}, {-6, 4, frac(-3, 2), api.OK},
		{4, 6, frac(2, 3), api.OK}, {7, 7, frac(1, 1), api.OK}, {7, 1, frac(7, 1), api.OK}, {1, 7, frac(1, 7), api.OK}, {1, -1, frac(-1, 1), api.OK},
		{far, far, frac(1, 1), api.OK}, {-far, far, frac(-1, 1), api.OK}, {far, -far, frac(-1, 1), api.OK}, {-far, -far, frac(1, 1), api.OK},
		{far, 1, frac(far, 1), api.OK}, {1, -far, frac(-1, far), api.OK}, {far - 1, far, frac(far-1, far), api.OK}, {0, -far, frac(0, 1), api.OK},
		{1, 0, api.Frac{}, api.ErrArg}, {0, 0, api.Frac{}, api.ErrArg}, {far + 1, 1, api.Frac{}, api.ErrArg}, {-far - 1, 1, api.Frac{}, api.ErrArg},
		{1, far + 1, api.Frac{}, api.ErrArg}, {1, -far - 1, api.Frac{}, api.ErrArg}, {math.MinInt, -1, api.Frac{}, api.ErrArg}, {math.MinInt, math.MinInt, api.Frac{}, api.ErrArg}, {math.MaxInt, 0, api.Frac{}, api.ErrArg},
	} {
		if f, e := years.Make(c.n, c.d); f != c.want || e != c.e {
			t.Error(c, f, e)
		}
	}
	d := dice(21)
	for range 20000 {
		n, m := d.IntN(401)-200, d.IntN(401)-200
		if d.IntN(3) == 0 {
			n, m = n*(d.IntN(5000000)+1), m*(d.IntN(5000000)+1)
		}
		if m == 0 {
			continue
		}
		if f, e := years.Make(n, m); e != api.OK || !is(f, big.NewRat(int64(n), int64(m))) {
			t.Fatal(n, m, f, e)
		}
	}
}

// P6.1: fractions are compared as numbers, whatever terms they have.
func TestCmp(t *testing.T) {
	for _, c := range []struct {
		a, b api.Frac
		want int
	}{
		{frac(1, 2), frac(2, 4), 0}, {frac(-1, 2), frac(1, 3), -1}, {frac(1, 2), frac(1, 3), 1}, {frac(-1, 2), frac(-1, 3), -1}, {frac(0, 5), frac(0, 1), 0}, {frac(3, 1), frac(3, 1), 0},
		{frac(0, 1), frac(-1, far), 1}, {frac(far, 1), frac(-far, 1), 1}, {frac(far, far-1), frac(far-1, far-2), -1}, {frac(-far, far), frac(-1, 1), 0}, {frac(far-1, far), frac(far-2, far-1), 1},
		{frac(1, 0), frac(0, 1), 0}, {frac(0, 1), frac(1, 0), 0}, {frac(1, -2), frac(5, 1), 0}, {frac(5, 1), frac(-1, -2), 0}, {frac(far+1, 1), frac(1, 1), 0}, {frac(1, 1), frac(-far-1, 1), 0},
		{frac(1, far+1), frac(1, 1), 0}, {frac(2, 1), frac(1, far+1), 0}, {api.Frac{}, frac(1, 1), 0}, {frac(1, 1), api.Frac{}, 0}, {frac(math.MinInt, 1), frac(1, 1), 0}, {frac(1, math.MaxInt), frac(5, 1), 0},
	} {
		if n := years.Cmp(c.a, c.b); n != c.want {
			t.Error(c, n)
		}
		if n := years.Cmp(c.b, c.a); n != -c.want {
			t.Error(c, "turned", n)
		}
	}
	d := dice(22)
	for range 20000 {
		a, b := frac(d.IntN(2*far+1)-far, d.IntN(far)+1), frac(d.IntN(2*far+1)-far, d.IntN(far)+1)
		if d.IntN(2) == 0 {
			a, b = frac(d.IntN(9)-4, d.IntN(4)+1), frac(d.IntN(9)-4, d.IntN(4)+1)
		}
		if n := years.Cmp(a, b); n != rat(a).Cmp(rat(b)) {
			t.Fatal(a, b, n)
		}
	}
}

// P6.1: means of all windows, the first greatest one, and that of the whole.
func TestMeans(t *testing.T) {
	most := slices.Repeat([]int{200000}, 400)
	for name, c := range map[string]struct {
		x      []int
		width  int
		mean   api.Frac
		moving []api.Frac
		index  int
		peak   api.Frac
	}{
		"the example":         {[]int{3, 4, 9}, 2, frac(16, 3), []api.Frac{frac(7, 2), frac(13, 2)}, 1, frac(13, 2)},
		"width 1":             {[]int{3, 4, 9}, 1, frac(16, 3), []api.Frac{frac(3, 1), frac(4, 1), frac(9, 1)}, 2, frac(9, 1)},
		"the whole":           {[]int{3, 4, 9}, 3, frac(16, 3), []api.Frac{frac(16, 3)}, 0, frac(16, 3)},
		"one year":            {[]int{7}, 1, frac(7, 1), []api.Frac{frac(7, 1)}, 0, frac(7, 1)},
		"no thickness":        {[]int{0, 0}, 1, frac(0, 1), []api.Frac{frac(0, 1), frac(0, 1)}, 0, frac(0, 1)},
		"the first of two":    {[]int{1, 5, 2, 5, 1}, 1, frac(14, 5), []api.Frac{frac(1, 1), frac(5, 1), frac(2, 1), frac(5, 1), frac(1, 1)}, 1, frac(5, 1)},
		"the first of all":    {[]int{2, 4, 2, 4}, 2, frac(3, 1), []api.Frac{frac(3, 1), frac(3, 1), frac(3, 1)}, 0, frac(3, 1)},
		"as thick as may be":  {[]int{200000, 0}, 2, frac(100000, 1), []api.Frac{frac(100000, 1)}, 0, frac(100000, 1)},
		"as many as may be":   {most, 400, frac(200000, 1), []api.Frac{frac(200000, 1)}, 0, frac(200000, 1)},
		"the peak comes late": {[]int{9, 0, 1, 9, 9}, 2, frac(28, 5), []api.Frac{frac(9, 2), frac(1, 2), frac(5, 1), frac(9, 1)}, 3, frac(9, 1)},
	} {
		if f, e := years.Mean(c.x); f != c.mean || e != api.OK {
			t.Error("Mean", name, f, e)
		}
		if l, e := years.Moving(c.x, c.width); !slices.Equal(l, c.moving) || e != api.OK {
			t.Error("Moving", name, l, e)
		}
		if i, f, e := years.Peak(c.x, c.width); i != c.index || f != c.peak || e != api.OK {
			t.Error("Peak", name, i, f, e)
		}
	}
}

// P1, R1, R2: a series is looked at first, then the width.
func TestMeanErrors(t *testing.T) {
	for _, x := range [][]int{nil, {}, {-1}, {200001}, {1, 2, -1}, {0, 200001, 0}, {math.MinInt}, {math.MaxInt, math.MaxInt}, make([]int, 401)} {
		if f, e := years.Mean(x); f != (api.Frac{}) || e != api.ErrSeries {
			t.Error(x, f, e)
		}
		for _, width := range []int{-1, 0, 1, 2, 3, 401, 402} {
			if l, e := years.Moving(x, width); len(l) > 0 || e != api.ErrSeries {
				t.Error(x, width, l, e)
			}
			if i, f, e := years.Peak(x, width); i != 0 || f != (api.Frac{}) || e != api.ErrSeries {
				t.Error(x, width, i, f, e)
			}
		}
	}
	for _, width := range []int{0, -1, 4, 5, math.MinInt, math.MaxInt} {
		if l, e := years.Moving([]int{1, 2, 3}, width); len(l) > 0 || e != api.ErrWidth {
			t.Error(width, l, e)
		}
		if i, f, e := years.Peak([]int{1, 2, 3}, width); i != 0 || f != (api.Frac{}) || e != api.ErrWidth {
			t.Error(width, i, f, e)
		}
	}
}

// P6.7: means lie between the elements, their sums are right, no mean is above the peak, and the mean of two series lies between theirs.
func TestMeansOfSomeSeries(t *testing.T) {
	d := dice(23)
	some := func() []int {
		top := 1 + d.IntN(6)
		if d.IntN(3) == 0 {
			top = 200001
		}
		var x []int
		for range 1 + d.IntN(200) {
			x = append(x, d.IntN(top))
		}
		return x
	}
	sum := func(x []int) int {
		n := 0
		for _, thick := range x {
			n += thick
		}
		return n
	}
	for range 300 {
		x, y := some(), some()
		width := 1 + d.IntN(len(x))
		means, e := years.Moving(x, width)
		if e != api.OK || len(means) != len(x)-width+1 {
			t.Fatal(x, width, e)
		}
		at, peak, e := years.Peak(x, width)
		if e != api.OK || means[at] != peak {
			t.Fatal(x, width, at, peak, e)
		}
		for i, f := range means {
			if !is(f, big.NewRat(int64(sum(x[i:i+width])), int64(width))) || f.N*width != f.D*sum(x[i:i+width]) {
				t.Fatal(x, width, i, f)
			}
			if years.Cmp(f, frac(slices.Min(x), 1)) < 0 || years.Cmp(f, frac(slices.Max(x), 1)) > 0 {
				t.Fatal(x, width, i, f)
			}
			if c := years.Cmp(peak, f); c < 0 || c == 0 && i < at {
				t.Fatal(x, width, i, f, at, peak)
			}
		}
		a, b := first(years.Mean(x)), first(years.Mean(y))
		both, e := years.Mean(slices.Concat(x, y))
		if years.Cmp(a, b) > 0 {
			a, b = b, a
		}
		if e != api.OK || years.Cmp(both, a) < 0 || years.Cmp(both, b) > 0 {
			t.Fatal(x, y, a, b, both, e)
		}
		if f, e := years.Mean(x); e != api.OK || !is(f, big.NewRat(int64(sum(x)), int64(len(x)))) {
			t.Fatal(x, f, e)
		}
	}
}

// P6.1: rates, and what may not be.
func TestRate(t *testing.T) {
	for _, c := range []struct {
		least, most, lo, hi int
		a, b                api.Frac
		e                   api.Errno
	}{
		{2, 5, 100, 200, frac(1, 100), frac(1, 20), api.OK}, {0, 0, 1, 1, frac(0, 1), frac(0, 1), api.OK}, {0, 3, 4, 6, frac(0, 1), frac(3, 4), api.OK}, {3, 3, 6, 6, frac(1, 2), frac(1, 2), api.OK},
		{far, far, 1, far, frac(1, 1), frac(far, 1), api.OK}, {1, far, far, far, frac(1, far), frac(1, 1), api.OK}, {7, 8, 1, 2, frac(7, 2), frac(8, 1), api.OK},
		{-1, 5, 1, 2, api.Frac{}, api.Frac{}, api.ErrArg}, {3, 2, 1, 2, api.Frac{}, api.Frac{}, api.ErrArg}, {0, far + 1, 1, 2, api.Frac{}, api.Frac{}, api.ErrArg}, {-2, -1, 1, 2, api.Frac{}, api.Frac{}, api.ErrArg},
		{0, 1, 0, 2, api.Frac{}, api.Frac{}, api.ErrArg}, {0, 1, -1, 2, api.Frac{}, api.Frac{}, api.ErrArg}, {0, 1, 3, 2, api.Frac{}, api.Frac{}, api.ErrArg}, {0, 1, 1, far + 1, api.Frac{}, api.Frac{}, api.ErrArg},
		{math.MinInt, math.MaxInt, math.MinInt, math.MaxInt, api.Frac{}, api.Frac{}, api.ErrArg},
	} {
		if a, b, e := years.Rate(c.least, c.most, c.lo, c.hi); a != c.a || b != c.b || e != c.e {
			t.Error(c, a, b, e)
		}
	}
}

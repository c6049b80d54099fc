package years

import (
	"cmp"
	"slices"

	"gyttja/api"
)

// Make is a fraction in lowest terms.
func Make(n, d int) (api.Frac, api.Errno) {
	if !within(n, -api.Far, api.Far) || !within(d, -api.Far, api.Far) || d == 0 {
		return api.Frac{}, api.ErrArg
	}
	both := divisor(n, d)
	if d < 0 {
		both = -both
	}
	return api.Frac{N: n / both, D: d / both}, api.OK
}

// divisor is the greatest number that divides both; one of them is not 0.
func divisor(n, d int) int {
	for d != 0 {
		n, d = d, n%d
	}
	return max(n, -n)
}

// Cmp compares two fractions.
func Cmp(a, b api.Frac) int {
	if !isValid(a) || !isValid(b) {
		return 0
	}
	return cmp.Compare(a.N*b.D, b.N*a.D)
}

func isValid(f api.Frac) bool {
	return within(f.N, -api.Far, api.Far) && within(f.D, 1, api.Far)
}

// Mean is the mean of thicknesses.
func Mean(x []int) (api.Frac, api.Errno) {
	if !isSeries(x) {
		return api.Frac{}, api.ErrSeries
	}
	sum := 0
	for _, thick := range x {
		sum += thick
	}
	return Make(sum, len(x))
}

func isSeries(x []int) bool {
	return within(len(x), 1, api.MaxSeries) &&
		!slices.ContainsFunc(x, func(thick int) bool { return !within(thick, 0, 2*api.MaxThick) })
}

// Moving returns the means of all windows of a width.
func Moving(x []int, width int) ([]api.Frac, api.Errno) {
	if !isSeries(x) {
		return nil, api.ErrSeries
	}
	if !within(width, 1, len(x)) {
		return nil, api.ErrWidth
	}
	var means []api.Frac
	for i := range len(x) - width + 1 {
		mean, _ := Mean(x[i : i+width]) // a part of a series is one
		means = append(means, mean)
	}
	return means, api.OK
}

// Peak is the first window with the greatest mean.
func Peak(x []int, width int) (int, api.Frac, api.Errno) {
	means, e := Moving(x, width)
	if e != api.OK {
		return 0, api.Frac{}, e
	}
	peak := slices.MaxFunc(means, Cmp)
	// In lowest terms, equal numbers are equal structs.
	return slices.Index(means, peak), peak, api.OK
}

// Rate returns the least and the greatest number of events a year.
func Rate(least, most int, lo, hi int) (a, b api.Frac, e api.Errno) {
	if least < 0 || least > most || most > api.Far || lo < 1 || lo > hi || hi > api.Far {
		return api.Frac{}, api.Frac{}, api.ErrArg
	}
	a, _ = Make(least, hi)
	b, _ = Make(most, lo)
	return a, b, api.OK
}

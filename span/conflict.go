package span

import (
	"slices"

	"gyttja/api"
)

// trial is a list of claims, of which those of some sources are believed.
type trial struct {
	claims   []api.Claim
	believed map[int]bool
}

// fails reports whether the claims of the believed sources have no chronology.
func (t trial) fails() bool {
	return graphOf(t.claims, func(i int) bool { return t.believed[t.claims[i].By] }).contradicts()
}

// failsWithout reports whether that is so even without one of these sources.
func (t trial) failsWithout(by int) bool {
	t.believed[by] = false
	fails := t.fails()
	t.believed[by] = true
	return fails
}

// Conflict returns sources that contradict each other, none of which can be left out.
func Conflict(l []api.Claim) ([]int, api.Errno) {
	if e := Check(l); e != api.OK {
		return nil, e
	}
	sources := Sources(l)
	t := trial{l, setOf(sources)}
	if !t.fails() {
		return nil, api.ErrNone
	}
	for _, by := range slices.Backward(sources) {
		if t.failsWithout(by) {
			t.believed[by] = false
		}
	}
	return slices.DeleteFunc(sources, func(by int) bool { return !t.believed[by] }), api.OK
}

// CheckConflict reports whether sources are a least conflict.
func CheckConflict(l []api.Claim, by []int) api.Errno {
	if e := Check(l); e != api.OK {
		return e
	}
	sources := Sources(l)
	last := none
	for _, source := range by {
		if source <= last || !slices.Contains(sources, source) {
			return api.ErrConflict
		}
		last = source
	}
	t := trial{l, setOf(by)}
	if !t.fails() || slices.ContainsFunc(by, t.failsWithout) {
		return api.ErrConflict
	}
	return api.OK
}

// Needless returns the claims without which the closure is the same.
func Needless(l []api.Claim) ([]int, api.Errno) {
	whole, e := Close(l)
	if e != api.OK {
		return nil, e
	}
	var needless []int
	for i := range len(l) {
		// What has a chronology has one with fewer claims, too.
		less, _ := closure(graphOf(l, func(k int) bool { return k != i }))
		if same(less.Net, whole) {
			needless = append(needless, i)
		}
	}
	return needless, api.OK
}

func same(n, m api.Net) bool {
	return slices.Equal(n.Marks, m.Marks) && slices.EqualFunc(n.Most, m.Most, slices.Equal)
}

package cases

import (
	"maps"
	"slices"

	"gyttja/api"
	"gyttja/span"
)

// refute returns sources for which no leaf begins with choices, whatever other sources say; ok is false if there is such a leaf.
func refute(w api.World, choices ...int) (by map[int]bool, ok bool) {
	claims := claimsBehind(w, choices...)
	by = map[int]bool{}
	if chain := contradiction(claims); len(chain) > 0 {
		for _, s := range chain {
			by[claims[s.Claim].By] = true
		}
		return by, true
	}
	if len(choices) == len(w.Questions) {
		return nil, false
	}
	q := w.Questions[len(choices)]
	for choice := range q.Choices {
		further, ok := refute(w, longer(choice, choices...)...)
		if !ok {
			return nil, false
		}
		if !further[q.By] {
			return further, true // no claim of the choice is needed, so no choice has a leaf
		}
		maps.Copy(by, further)
	}
	return by, true
}

// Conflict returns sources that contradict each other, none of which can be left out.
func Conflict(w api.World) ([]int, api.Errno) {
	if e := Check(w); e != api.OK {
		return nil, e
	}
	blamed, ok := refute(w)
	if !ok {
		return nil, api.ErrNone
	}
	sources := Sources(w)
	left := setOf(sources)
	for _, source := range slices.Backward(sources) {
		left[source] = false
		if !blamed[source] {
			continue // what is blamed contradicts itself without it, too
		}
		if further, ok := refute(only(w, left)); ok {
			blamed = further
		} else {
			left[source] = true
		}
	}
	return slices.DeleteFunc(sources, func(by int) bool { return !left[by] }), api.OK
}

func setOf(l []int) map[int]bool {
	set := make(map[int]bool, len(l))
	for _, n := range l {
		set[n] = true
	}
	return set
}

// CheckConflict reports whether sources are a least conflict.
func CheckConflict(w api.World, by []int) api.Errno {
	if e := Check(w); e != api.OK {
		return e
	}
	sources := Sources(w)
	last := none
	for _, source := range by {
		if source <= last || !slices.Contains(sources, source) {
			return api.ErrConflict
		}
		last = source
	}
	left := setOf(by)
	if _, ok := refute(only(w, left)); !ok {
		return api.ErrConflict
	}
	for _, source := range by {
		left[source] = false
		if _, ok := refute(only(w, left)); ok {
			return api.ErrConflict
		}
		left[source] = true
	}
	return api.OK
}

// Blame returns sources whose claims at choices contradict each other, none of which can be left out.
func Blame(w api.World, choices []int) ([]int, api.Errno) {
	claims, e := At(w, choices)
	if e != api.OK {
		return nil, e
	}
	return span.Conflict(claims)
}

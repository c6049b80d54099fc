package mark_test

import (
	"slices"
	"testing"

	"gyttja/api"
	"gyttja/mark"
)

// Terms: marks are numbers from 1 to MaxMark, and the datum is 0. They are told each once, rising.
func TestList(t *testing.T) {
	for _, c := range []struct{ added, want []int }{
		{nil, nil},
		{[]int{0}, []int{0}},
		{[]int{api.MaxMark}, []int{2048}},
		{[]int{5, 5, 5}, []int{5}},
		{[]int{2048, 63, 0, 64, 1, 2047, 65, 64, 127, 128}, []int{0, 1, 63, 64, 65, 127, 128, 2047, 2048}},
	} {
		var s mark.Set
		for _, m := range c.added {
			s.Add(m)
		}
		if l := s.List(); !slices.Equal(l, c.want) {
			t.Error(c, l)
		}
	}
}

// Terms: each mark is told, and all together.
func TestAllMarks(t *testing.T) {
	var all mark.Set
	for m := range api.MaxMark + 1 {
		var one mark.Set
		one.Add(m)
		all.Add(api.MaxMark - m)
		if l := one.List(); !slices.Equal(l, []int{m}) {
			t.Error(m, l)
		}
	}
	l := all.List()
	for m := range api.MaxMark + 1 {
		if len(l) != api.MaxMark+1 || l[m] != m {
			t.Fatal(l)
		}
	}
}

package mark_test

import (
	"slices"
	"testing"

	"gyttja/api"
	"gyttja/mark"
)

// claims have marks, two by two.
func claims(marks ...int) []api.Claim {
	var l []api.Claim
	for i := 0; i < len(marks); i += 2 {
		l = append(l, api.Claim{A: marks[i], B: marks[i+1], By: 1})
	}
	return l
}

// Terms: marks are numbers from 1 to MaxMark, and the datum is 0. They are told each once, rising.
func TestMarks(t *testing.T) {
	for _, c := range []struct{ of, want []int }{
		{nil, nil},
		{[]int{0, 1}, []int{0, 1}},
		{[]int{api.MaxMark, 0}, []int{0, 2048}},
		{[]int{5, 7, 7, 5, 5, 7}, []int{5, 7}},
		{[]int{2048, 63, 0, 64, 1, 2047, 65, 64, 127, 128}, []int{0, 1, 63, 64, 65, 127, 128, 2047, 2048}},
	} {
		if l := mark.OfClaims(claims(c.of...)); !slices.Equal(l, c.want) {
			t.Error(c, l)
		}
		if l := mark.OfWorld(api.World{Claims: claims(c.of...)}); !slices.Equal(l, c.want) {
			t.Error(c, l)
		}
	}
}

// Terms: the marks of all choices of all questions are marks of a world.
func TestMarksOfQuestions(t *testing.T) {
	w := api.World{
		Claims: claims(9, 3),
		Questions: []api.Question{
			{By: 1, Choices: [][]api.Claim{nil, claims(0, 70), claims(9, 2048)}},
			{By: 1},
			{By: 1, Choices: [][]api.Claim{claims(5, 3, 6, 5)}},
		},
	}
	if l := mark.OfWorld(w); !slices.Equal(l, []int{0, 3, 5, 6, 9, 70, 2048}) {
		t.Error(l)
	}
}

// Terms: each mark is told, and all together.
func TestAllMarks(t *testing.T) {
	var all []api.Claim
	for m := range api.MaxMark {
		one := claims(m, api.MaxMark)
		all = append(all, one...)
		if l := mark.OfClaims(one); !slices.Equal(l, []int{m, api.MaxMark}) {
			t.Error(m, l)
		}
	}
	l := mark.OfClaims(all)
	for m := range api.MaxMark + 1 {
		if len(l) != api.MaxMark+1 || l[m] != m {
			t.Fatal(l)
		}
	}
}

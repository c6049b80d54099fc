package cases

import "gyttja/api"

// eachLeaf calls visit with each leaf, in dictionary order, and the claims at it, until visit asks for no more.
func eachLeaf(w api.World, visit func(choices []int, claims []api.Claim) (more bool)) {
	var search func(choices ...int) bool
	search = func(choices ...int) bool {
		claims := claimsBehind(w, choices...)
		if len(contradiction(claims)) > 0 {
			return true
		}
		if len(choices) == len(w.Questions) {
			return visit(choices, claims)
		}
		for choice := range w.Questions[len(choices)].Choices {
			if !search(longer(choice, choices...)...) {
				return false
			}
		}
		return true
	}
	search()
}

// Leaves returns the choices of all cases that do not contradict themselves.
func Leaves(w api.World) ([][]int, api.Errno) {
	if e := Check(w); e != api.OK {
		return nil, e
	}
	var leaves [][]int
	eachLeaf(w, func(choices []int, _ []api.Claim) bool {
		leaves = append(leaves, choices)
		return true
	})
	return leaves, api.OK
}

// answer is a choice of a question.
type answer struct{ question, choice int }

// Left returns, of each question, the choices that are left.
func Left(w api.World) ([][]int, api.Errno) {
	if e := Check(w); e != api.OK {
		return nil, e
	}
	leaves := 0
	left := map[answer]bool{}
	eachLeaf(w, func(choices []int, _ []api.Claim) bool {
		leaves++
		for question, choice := range choices {
			left[answer{question, choice}] = true
		}
		return true
	})
	if leaves == 0 {
		return nil, api.ErrChronology
	}
	lists := make([][]int, len(w.Questions))
	for question, q := range w.Questions {
		for choice := range q.Choices {
			if left[answer{question, choice}] {
				lists[question] = append(lists[question], choice)
			}
		}
	}
	return lists, api.OK
}

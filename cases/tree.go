package cases

import (
	"gyttja/api"
	"gyttja/span"
)

// bud is where a twig is due in a tree: its parent, and the choices on the way to it.
type bud struct {
	parent  int
	choices []int
}

// choice is that of the twig, none for the root.
func (b bud) choice() int {
	if len(b.choices) == 0 {
		return none
	}
	return b.choices[len(b.choices)-1]
}

// eachTwig goes through the places of a tree's twigs, level by level. The twig at a place has children if visit says so, and a question is left.
func eachTwig(w api.World, visit func(bud) bool) {
	due := []bud{{parent: none}}
	for i := 0; i < len(due); i++ {
		b := due[i]
		depth := len(b.choices)
		if !visit(b) || depth == len(w.Questions) {
			continue
		}
		for choice := range w.Questions[depth].Choices {
			due = append(due, bud{i, longer(choice, b.choices...)})
		}
	}
}

// longer returns choices and one more, as a list of its own.
func longer(choice int, choices ...int) []int {
	l := make([]int, len(choices)+1)
	copy(l, choices)
	l[len(choices)] = choice
	return l
}

// Grow returns the tree of cases.
func Grow(w api.World) (api.Tree, api.Errno) {
	if e := Check(w); e != api.OK {
		return api.Tree{}, e
	}
	var t api.Tree
	eachTwig(w, func(b bud) bool {
		cut := contradiction(claimsBehind(w, b.choices...))
		t.Twigs = append(t.Twigs, api.Twig{Parent: b.parent, Choice: b.choice(), Cut: cut})
		return len(cut) == 0
	})
	return t, api.OK
}

// contradiction returns a chain that shows that claims of a valid world contradict each other; none, if they do not.
func contradiction(claims []api.Claim) []api.Step {
	chain, _ := span.Cycle(claims)
	return chain
}

// CheckTree reports whether a tree has all cases, and each cut is right.
func CheckTree(w api.World, t api.Tree) api.Errno {
	if e := Check(w); e != api.OK {
		return e
	}
	left, right := t.Twigs, true
	eachTwig(w, func(b bud) bool {
		if len(left) == 0 || !fits(w, b, left[0]) {
			right = false
			return false
		}
		cut := left[0].Cut
		left = left[1:]
		return len(cut) == 0
	})
	if !right || len(left) > 0 {
		return api.ErrTree
	}
	return api.OK
}

// fits reports whether a twig may stand at a place where one is due.
func fits(w api.World, b bud, t api.Twig) bool {
	if t.Parent != b.parent || t.Choice != b.choice() {
		return false
	}
	claims := claimsBehind(w, b.choices...)
	if len(t.Cut) > 0 {
		return span.CheckCycle(claims, t.Cut) == api.OK
	}
	return len(b.choices) < len(w.Questions) || len(contradiction(claims)) == 0
}

// Package pick takes the numbers by which the layers let a caller choose: see R10 of shared/DOC.md.
package pick

// Index is the choice among so many candidates of the number that stands behind the numbers taken; 0 without numbers or candidates.
func Index(picks []int, taken, candidates int) int {
	if len(picks) == 0 || candidates < 1 {
		return 0
	}
	rest := picks[taken%len(picks)] % candidates
	if rest < 0 {
		rest += candidates
	}
	return rest
}

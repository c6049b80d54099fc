// Package mark collects the marks of claims, of which there are few, each once and rising: layers number them so.
package mark

import (
	"math/bits"

	"gyttja/api"
)

// set has marks from 0 to MaxMark.
type set struct{ words [api.MaxMark/64 + 1]uint64 }

func (s *set) add(mark int) { s.words[mark/64] |= 1 << (mark % 64) }

func (s *set) addClaims(l []api.Claim) {
	for _, c := range l {
		s.add(c.A)
		s.add(c.B)
	}
}

// list returns the marks, rising.
func (s *set) list() []int {
	var marks []int
	for i, word := range s.words {
		for ; word != 0; word &= word - 1 {
			marks = append(marks, 64*i+bits.TrailingZeros64(word))
		}
	}
	return marks
}

// OfClaims returns the marks of claims. Each claim must be valid, but there may be any number of claims and marks: those who check lists count them so.
func OfClaims(l []api.Claim) []int {
	var marks set
	marks.addClaims(l)
	return marks.list()
}

// OfWorld returns the marks of a world, likewise.
func OfWorld(w api.World) []int {
	var marks set
	marks.addClaims(w.Claims)
	for _, q := range w.Questions {
		for _, claims := range q.Choices {
			marks.addClaims(claims)
		}
	}
	return marks.list()
}

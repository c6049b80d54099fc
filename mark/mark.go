// Package mark collects marks, of which there are few, each once and rising: layers number them so.
package mark

import (
	"math/bits"

	"gyttja/api"
)

// Set has marks from 0 to MaxMark.
type Set struct{ words [api.MaxMark/64 + 1]uint64 }

// Add takes in a mark that is in its limits.
func (s *Set) Add(mark int) { s.words[mark/64] |= 1 << (mark % 64) }

// List returns the marks, rising.
func (s *Set) List() []int {
	var marks []int
	for i, word := range s.words {
		for ; word != 0; word &= word - 1 {
			marks = append(marks, 64*i+bits.TrailingZeros64(word))
		}
	}
	return marks
}

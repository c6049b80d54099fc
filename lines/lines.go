// Package lines reads texts of lines, words and numbers, for all layers: see shared/doc/01-sheet.md.
package lines

import (
	"iter"
	"strings"
)

// Said ranges over the lines of a text that say something: the number of each, from 1 on, and its words.
func Said(text string) iter.Seq2[int, []string] {
	return func(yield func(int, []string) bool) {
		no := 0
		for l := range strings.Lines(text) {
			no++
			words := wordsOf(strings.TrimSuffix(l, "\n"))
			if len(words) == 0 || l[0] == '#' {
				continue
			}
			if !yield(no, words) {
				return
			}
		}
	}
}

// wordsOf parts a line at spaces, and at no other white space.
func wordsOf(line string) []string {
	return strings.FieldsFunc(line, func(r rune) bool { return r == ' ' })
}

// Count is the number of all lines of a text, also of those that say nothing.
func Count(text string) int {
	n := strings.Count(text, "\n")
	if text != "" && !strings.HasSuffix(text, "\n") {
		n++
	}
	return n
}

// Number reads digits alone, at most so many, for which an int must have room: strconv would allow signs and leading zeros. It is not ok if the word is no such number.
func Number(word string, digits int) (n int, ok bool) {
	if word == "" || len(word) > digits || word[0] == '0' && word != "0" {
		return 0, false
	}
	for _, c := range []byte(word) {
		if c < '0' || c > '9' {
			return 0, false
		}
		n = 10*n + int(c-'0')
	}
	return n, true
}

// Signed reads a number likewise that may have a minus sign ahead of its digits, if it is not 0.
func Signed(word string, digits int) (n int, ok bool) {
	rest, negative := strings.CutPrefix(word, "-")
	n, ok = Number(rest, digits)
	if !negative {
		return n, ok
	}
	return -n, n != 0
}

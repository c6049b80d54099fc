// Package lines reads texts of lines, words and numbers, for all layers: see shared/doc/01-sheet.md.
package lines

import (
	"iter"
	"strings"
)

// Of returns the lines of a text, without their line feeds. Behind a line feed at the end there is no further line.
func Of(text string) []string {
	if text == "" {
		return nil
	}
	return strings.Split(strings.TrimSuffix(text, "\n"), "\n")
}

// Count is the number of all lines of a text, also of those that say nothing.
func Count(text string) int { return len(Of(text)) }

// Saying ranges over the lines of a text that say something: the number of each, from 1 on, and the line itself.
func Saying(text string) iter.Seq2[int, string] {
	return func(yield func(int, string) bool) {
		for i, l := range Of(text) {
			if len(wordsOf(l)) == 0 || l[0] == '#' {
				continue
			}
			if !yield(i+1, l) {
				return
			}
		}
	}
}

// Said ranges likewise: the number of each line, and its words.
func Said(text string) iter.Seq2[int, []string] {
	return func(yield func(int, []string) bool) {
		for no, l := range Saying(text) {
			if !yield(no, wordsOf(l)) {
				return
			}
		}
	}
}

// wordsOf parts a line at spaces, and at no other white space.
func wordsOf(line string) []string {
	return strings.FieldsFunc(line, func(r rune) bool { return r == ' ' })
}

// Number reads digits alone, at most so many, for which an int must have room: strconv would allow signs and leading zeros. It is not ok if the word is no such number.
func Number(word string, digits int) (n int, ok bool) {
	if word == "" || len(word) > digits || word[0] == '0' && word != "0" {
		return 0, false
	}
	for _, c := range []byte(word) {
		if c < '0' || c > '9' {
			return 0, false
		}
		n = 10*n + int(c-'0')
	}
	return n, true
}

// Signed reads a number likewise that may have a minus sign ahead of its digits, if it is not 0.
func Signed(word string, digits int) (n int, ok bool) {
	rest, negative := strings.CutPrefix(word, "-")
	n, ok = Number(rest, digits)
	if !negative {
		return n, ok
	}
	return -n, n != 0
}

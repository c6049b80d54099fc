package desk

import (
	"iter"
	"slices"

	"gyttja/api"
)

// quote begins and ends a quoted word; escape stands ahead of a byte that stands for another one.
const (
	quote  = '"'
	escape = '\\'
)

func isPrinted(c byte) bool { return ' ' <= c && c <= '~' }

// word is a word of a line, and the place of its first byte.
type word struct {
	at   int
	text string
}

// wordsOf ranges over the words of a line: the place of each, and the word; of a quoted one a quote and the bytes that it stands for. It throws the place of the first byte that may not stand where it stands.
func wordsOf(line string) iter.Seq2[int, string] {
	return func(yield func(int, string) bool) {
		for at := 0; at < len(line); {
			if line[at] == ' ' {
				at++
				continue
			}
			text, end := wordAt(line, at)
			if !yield(at, text) {
				return
			}
			at = end
		}
	}
}

// wordAt returns the word that begins at a place, and the place behind it.
func wordAt(line string, at int) (text string, end int) {
	if line[at] == quote {
		return quotedAt(line, at)
	}
	for end = at; end < len(line) && line[end] != ' '; end++ {
		if line[end] == quote || !isPrinted(line[end]) {
			panic(wrong{end, api.ErrWord})
		}
	}
	return line[at:end], end
}

func quotedAt(line string, at int) (text string, end int) {
	b := []byte{quote}
	for i := at + 1; i < len(line); i++ {
		switch c := line[i]; {
		case c == quote:
			if i+1 < len(line) && line[i+1] != ' ' {
				panic(wrong{i + 1, api.ErrWord})
			}
			return string(b), i + 1
		case c == escape:
			b = append(b, escapedAt(line, i))
			i++
		case !isPrinted(c):
			panic(wrong{i, api.ErrWord})
		default:
			b = append(b, c)
		}
	}
	panic(wrong{at, api.ErrWord})
}

// escapedAt is the byte for which an escape and the byte behind it stand.
func escapedAt(line string, at int) byte {
	if at+1 < len(line) {
		switch c := line[at+1]; c {
		case quote, escape:
			return c
		case 'n':
			return '\n'
		}
	}
	panic(wrong{at, api.ErrWord})
}

// cut returns the words of a line.
func cut(line string) []word {
	if len(line) > api.MaxLine {
		refuse(api.ErrLong)
	}
	var words []word
	for at, text := range wordsOf(line) {
		words = append(words, word{at, text})
	}
	// A byte that may not stand anywhere in the line is ahead of this.
	if len(words) > api.MaxWords {
		refuse(api.ErrLong)
	}
	return words
}

// Words parts a line into words.
func Words(line string) ([]string, int, api.Errno) {
	return attempt(func() []string {
		var texts []string
		for _, w := range cut(line) {
			texts = append(texts, w.text)
		}
		return texts
	})
}

// isText reports whether a quoted word may stand for all bytes of a text.
func isText(s string) bool {
	return !slices.ContainsFunc([]byte(s), func(c byte) bool { return c != '\n' && !isPrinted(c) })
}

// Quote makes a word of a text.
func Quote(s string) string {
	if !isText(s) {
		return ""
	}
	b := []byte{quote}
	for _, c := range []byte(s) {
		switch c {
		case '\n':
			b = append(b, escape, 'n')
		case quote, escape:
			b = append(b, escape, c)
		default:
			b = append(b, c)
		}
	}
	return string(append(b, quote))
}

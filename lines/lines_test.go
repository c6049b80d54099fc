package lines_test

import (
	"slices"
	"strconv"
	"strings"
	"testing"

	"gyttja/lines"
)

// Lines that say nothing are counted, but not yielded; spaces alone part words.
func TestSaid(t *testing.T) {
	for text, want := range map[string]string{
		"":                         "",
		"\n":                       "",
		"a":                        "1:a",
		"a\n":                      "1:a",
		"a\n\n":                    "1:a",
		" a  b \n\n#c\n #d\n  \ne": "1:a,b 4:#d 6:e",
		"#\n##\na#":                "3:a#",
		"a\tb\r\n\v\n\u00a0":       "1:a\tb\r 2:\v 3:\u00a0",
		"a\x00 \xff":               "1:a\x00,\xff",
	} {
		var said []string
		for no, words := range lines.Said(text) {
			said = append(said, strconv.Itoa(no)+":"+strings.Join(words, ","))
		}
		if got := strings.Join(said, " "); got != want {
			t.Errorf("%q: %q", text, got)
		}
	}
}

// The ranges may be left, and begun again.
func TestSaidIsLeft(t *testing.T) {
	said, saying := lines.Said("a\nb\nc"), lines.Saying("a\nb\nc")
	for range 2 {
		for no, words := range said {
			if no != 1 || !slices.Equal(words, []string{"a"}) {
				t.Error(no, words)
			}
			break
		}
		for no, l := range saying {
			if no != 1 || l != "a" {
				t.Error(no, l)
			}
			break
		}
	}
}

// The lines that say something are told as they stand, without their line feeds.
func TestSaying(t *testing.T) {
	for text, want := range map[string]string{
		"": "", "\n": "", " a  b \n\n#c\n #d\n  \ne": `1:" a  b " 4:" #d" 6:"e"`, "\"x\\\n\r\n#": `1:"\"x\\" 2:"\r"`,
	} {
		var said []string
		for no, l := range lines.Saying(text) {
			said = append(said, strconv.Itoa(no)+":"+strconv.Quote(l))
		}
		if got := strings.Join(said, " "); got != want {
			t.Errorf("%q: %s", text, got)
		}
	}
}

// Behind a line feed at the end there is no further line, and an empty text has none.
func TestOf(t *testing.T) {
	for text, want := range map[string][]string{
		"": nil, "\n": {""}, "a": {"a"}, "a\n": {"a"}, "a\n\n": {"a", ""}, "\na": {"", "a"}, "a\r\n#b\n ": {"a\r", "#b", " "},
	} {
		if l := lines.Of(text); !slices.Equal(l, want) {
			t.Errorf("%q: %q", text, l)
		}
	}
}

func TestCount(t *testing.T) {
	for text, want := range map[string]int{"": 0, "\n": 1, "a": 1, "a\n": 1, "\n\n": 2, "a\n\nb": 3, "#\n \n": 2} {
		if n := lines.Count(text); n != want {
			t.Errorf("%q: %d", text, n)
		}
	}
}

// A number that is not ok is 0.
func TestNumbers(t *testing.T) {
	for _, c := range []struct {
		word       string
		digits     int
		number     int
		ok, signed bool
	}{
		{"0", 1, 0, true, true}, {"7", 1, 7, true, true}, {"9999999999", 10, 9999999999, true, true}, {"100000", 6, 100000, true, true},
		{"-1", 1, -1, false, true}, {"-9999999999", 10, -9999999999, false, true}, {"-10", 2, -10, false, true},
		{"", 6, 0, false, false}, {"-", 6, 0, false, false}, {"00", 6, 0, false, false}, {"01", 6, 0, false, false}, {"+1", 6, 0, false, false},
		{"1234567", 6, 0, false, false}, {"-1234567", 6, 0, false, false}, {"-0", 6, 0, false, false}, {"--1", 6, 0, false, false}, {"-01", 6, 0, false, false},
		{"1a", 6, 0, false, false}, {"a", 6, 0, false, false}, {"1.", 6, 0, false, false}, {"1_0", 6, 0, false, false}, {"1-", 6, 0, false, false}, {" 1", 6, 0, false, false}, {"\u0661", 6, 0, false, false},
	} {
		if n, ok := lines.Signed(c.word, c.digits); ok != c.signed || ok && n != c.number || !ok && n != 0 {
			t.Errorf("Signed %q: %d %v", c.word, n, ok)
		}
		if n, ok := lines.Number(c.word, c.digits); ok != c.ok || ok && n != c.number || !ok && n != 0 {
			t.Errorf("Number %q: %d %v", c.word, n, ok)
		}
	}
}

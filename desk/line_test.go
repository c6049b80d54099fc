package desk_test

import (
	"regexp"
	"slices"
	"strings"
	"testing"

	"gyttja/api"
	"gyttja/desk"
)

// P10.2: the chapter's example, and each rule of words.
func TestWords(t *testing.T) {
	for _, c := range []struct {
		line string
		want []string
	}{
		{"", nil}, {"   ", nil}, {"a", []string{"a"}}, {"  a  b ", []string{"a", "b"}},
		{`a "b\nc" d`, []string{"a", "\"b\nc", "d"}},
		{`"" " "`, []string{`"`, `" `}},
		{`"\"\\\n"`, []string{"\"\"\\\n"}},
		{`"\\" "\\\""`, []string{`"\`, `"\"`}},
		{`a\ \n \`, []string{`a\`, `\n`, `\`}},
		{`# x #`, []string{"#", "x", "#"}},
		{"!~ \" ~\"", []string{"!~", "\" ~"}},
		{`'a' 5:6 -7`, []string{"'a'", "5:6", "-7"}},
	} {
		if words, at, e := desk.Words(c.line); !slices.Equal(words, c.want) || at != 0 || e != api.OK {
			t.Errorf("%q: %q %d %d", c.line, words, at, e)
		}
	}
}

// P10.2: the place of the first byte that may not stand where it stands.
func TestWrongWords(t *testing.T) {
	for line, want := range map[string]int{
		"a\tb": 1, "a \n": 2, "\x00": 0, "ab\x7f": 2, "a \x80": 2, "\u00e9": 0,
		`a"b`: 1, `a"`: 1, `5 x"y" "`: 3,
		`"a"b`: 3, `"a""b"`: 3, `"a"\`: 3, "\"a\"\n": 3, `"" ""x`: 5,
		`a "b\c"`: 4, `"\`: 1, `"ab\`: 3, `"\N"`: 1, `"\ "`: 1, `"a\\\b"`: 4, "\"\\\n\"": 1,
		`"`: 0, `a "b`: 2, `a "b\"`: 2, `a "b c d`: 2, `"a" "`: 4, `"\\\"`: 0,
		"\"a\nb\"": 2, "\"\x1f\"": 1, "\"a\x7f": 2, "\"\xff\"": 1, "\"a\tb": 2,
		"a\x01 \"b": 1, "\"b\\c \x01": 2,
	} {
		if words, at, e := desk.Words(line); len(words) != 0 || at != want || e != api.ErrWord {
			t.Errorf("%q: %q %d %d", line, words, at, e)
		}
	}
}

// P10.2, R1, R7: a line that is too long is ahead of a byte that may not stand, and that ahead of too many words.
func TestWordsLimits(t *testing.T) {
	long := strings.Repeat("a", 20000)
	sixty := strings.Repeat("a ", 60)
	for _, c := range []struct {
		line  string
		words int
		at    int
		e     api.Errno
	}{
		{long, 1, 0, api.OK}, {long + "a", 0, 0, api.ErrLong}, {strings.Repeat(" ", 20001), 0, 0, api.ErrLong}, {"\x01" + long, 0, 0, api.ErrLong},
		{sixty, 60, 0, api.OK}, {sixty + "b", 0, 0, api.ErrLong}, {sixty + `b "`, 0, 122, api.ErrWord}, {sixty + "\"b\"", 0, 0, api.ErrLong},
		{strings.Repeat(`"" `, 60), 60, 0, api.OK}, {strings.Repeat("a ", 10000), 0, 0, api.ErrLong},
		{`"` + strings.Repeat(`\n`, 9999) + `"`, 1, 0, api.OK},
	} {
		if words, at, e := desk.Words(c.line); len(words) != c.words || at != c.at || e != c.e {
			t.Errorf("%.9q, %d bytes: %d %d %d", c.line, len(c.line), len(words), at, e)
		}
	}
}

// How a line is written, by the chapter's text.
var (
	wordPattern = regexp.MustCompile(`"(?:[ !#-\[\]-~]|\\["\\n])*"|[!#-~]+`)
	linePattern = regexp.MustCompile(`^ *(?:(?:` + wordPattern.String() + `)(?: +|$))*$`)
)

// mayGoOn reports whether the beginning of a line can be completed, and whether that ends with a \ that asks for a byte.
func mayGoOn(s string) (can, escapes bool) {
	if linePattern.MatchString(s) || linePattern.MatchString(s+`"`) {
		return true, false
	}
	can = linePattern.MatchString(s + `n"`)
	return can, can
}

// wrongPlace is the place of the first byte that may not stand where it stands: no line begins with the bytes up to it.
func wrongPlace(line string) int {
	for i := range len(line) {
		if can, _ := mayGoOn(line[:i+1]); !can {
			if _, escapes := mayGoOn(line[:i]); escapes {
				return i - 1
			}
			return i
		}
	}
	if _, escapes := mayGoOn(line); escapes {
		return len(line) - 1
	}
	begin := len(line)
	for !linePattern.MatchString(line[:begin]) {
		begin--
	}
	return begin
}

// meant is the word that a piece of a line stands for.
func meant(s string) string {
	if s[0] != '"' {
		return s
	}
	return `"` + strings.NewReplacer(`\n`, "\n", `\"`, `"`, `\\`, `\`).Replace(s[1:len(s)-1])
}

// eachLine calls check with all lines of at most so many of some bytes.
func eachLine(bytes string, most int, check func(string)) {
	check("")
	if most == 0 {
		return
	}
	for i := range len(bytes) {
		eachLine(bytes, most-1, func(rest string) { check(bytes[i:i+1] + rest) })
	}
}

// P10.2: all short lines are parted as the chapter's text says.
func TestAllShortLines(t *testing.T) {
	eachLine(" a\"\\n\x7f", 6, func(line string) {
		words, at, e := desk.Words(line)
		if !linePattern.MatchString(line) {
			if want := wrongPlace(line); len(words) != 0 || at != want || e != api.ErrWord {
				t.Fatalf("%q: %q %d %d, not %d", line, words, at, e, want)
			}
			return
		}
		var want []string
		for _, s := range wordPattern.FindAllString(line, -1) {
			want = append(want, meant(s))
		}
		if !slices.Equal(words, want) || at != 0 || e != api.OK {
			t.Fatalf("%q: %q %d %d, not %q", line, words, at, e, want)
		}
	})
}

// P10.2: each byte may stand where the chapter says.
func TestBytes(t *testing.T) {
	for b := range 256 {
		c := string([]byte{byte(b)})
		_, at, e := desk.Words("x" + c + "x")
		if may := 0x20 <= b && b <= 0x7e && c != `"`; may != (e == api.OK) || !may && at != 1 {
			t.Errorf("%q: %d %d", c, at, e)
		}
		words, at, e := desk.Words(`x "` + c + `"`)
		if may := 0x20 <= b && b <= 0x7e && c != `"` && c != `\`; may != (e == api.OK) || may && words[1] != `"`+c {
			t.Errorf("%q: %q %d %d", c, words, at, e)
		}
		quoted := desk.Quote("x" + c + "y")
		if may := 0x20 <= b && b <= 0x7e || b == '\n'; may != (quoted != "") {
			t.Errorf("%q: %q", c, quoted)
		}
	}
}

// P10.2: the chapter's example of what is quoted, and edge cases.
func TestQuote(t *testing.T) {
	for s, want := range map[string]string{
		"": `""`, "a": `"a"`, "a b": `"a b"`, "b\nc": `"b\nc"`, "\"\\\n": `"\"\\\n"`, `\n`: `"\\n"`, " ~": `" ~"`,
		"\t": "", "a\r\n": "", "\x1f": "", "\x7f": "", "\u00e9": "", "abc\x00": "", "\x80abc": "",
	} {
		if got := desk.Quote(s); got != want {
			t.Errorf("%q: %q", s, got)
		}
	}
}

// P10.2: a quoted text is read as the word that stands for it.
func TestWordsOfQuote(t *testing.T) {
	eachLine("a\"\\\n ", 6, func(s string) {
		words, _, e := desk.Words("x " + desk.Quote(s) + " y")
		if e != api.OK || !slices.Equal(words, []string{"x", `"` + s, "y"}) {
			t.Fatalf("%q: %q %d", s, words, e)
		}
	})
	long := strings.Repeat("\\\n", 30000)
	if q := desk.Quote(long); len(q) != 2+4*30000 {
		t.Error(len(q))
	}
}

package office_test

import (
	"bytes"
	"encoding/binary"
	"hash/crc32"
	"slices"
	"strings"
	"testing"

	"gyttja/api"
	"gyttja/office"
)

// P8.1: the chapter's examples, and sums of any bytes.
func TestSum(t *testing.T) {
	for text, want := range map[string]uint32{"": 0, "123456789": 3421780262, "\x00": 0xD202EF8D, "\xff\xff\xff\xff": 0xFFFFFFFF} {
		if n := office.Sum([]byte(text)); n != want {
			t.Errorf("%q %d", text, n)
		}
	}
	d := dice(2)
	for size := range 300 {
		b := make([]byte, size)
		for i := range b {
			b[i] = byte(d.IntN(256))
		}
		if n := office.Sum(b); n != crc32.ChecksumIEEE(b) {
			t.Errorf("%x %d", b, n)
		}
	}
}

// P8.1: a frame is the number of bytes, their sum, and the bytes.
func TestFrame(t *testing.T) {
	b, e := office.Frame(with(entryX, "ab"))
	if e != api.OK || len(b) != 30 || !bytes.Equal(b[:4], []byte{0, 0, 0, 22}) || binary.BigEndian.Uint32(b[4:]) != crc32.ChecksumIEEE(b[8:]) || !bytes.Equal(b[8:], bytesOf(with(entryX, "ab"))) {
		t.Errorf("%x %d", b, e)
	}
	for _, x := range []api.Entry{entryZ, entryU, with(entryX, strings.Repeat("a", 8000))} {
		if b, e := office.Frame(x); e != api.OK || !bytes.Equal(b, frames(x)) {
			t.Error(x.At, len(b), e)
		}
	}
	for _, x := range badEntries() {
		if b, e := office.Frame(x); e != api.ErrEntry || len(b) != 0 {
			t.Error(x.At, x.Kind, b, e)
		}
	}
}

// P8.1: what is no whole frame ends a scan.
func TestScanEnds(t *testing.T) {
	good := bytesOf(with(entryX, "ab"))
	sized := func(n uint32, body []byte) []byte {
		b := framed(body)
		binary.BigEndian.PutUint32(b, n)
		return b
	}
	spoilt := frames(entryX)
	spoilt[20] ^= 1
	for name, b := range map[string][]byte{
		"nothing":                  nil,
		"a byte":                   {0},
		"seven bytes":              frames(entryX)[:7],
		"no body":                  frames(entryX)[:8],
		"a seal":                   seal,
		"a seal and zeros":         make([]byte, 100),
		"a body of 19 bytes":       framed(good[:19]),
		"a text that is cut":       framed(good[:21]),
		"a byte more in the body":  framed(append(slices.Clone(good), 0)),
		"a byte less is told":      sized(21, good),
		"a byte more is told":      append(sized(23, good), 0),
		"more than there is":       sized(1<<31, good),
		"the most that is told":    sized(1<<32-1, good),
		"another sum":              spoilt,
		"another body":             append(frames(entryX)[:8], bytesOf(entryY)...),
		"a kind that there is not": framed(bytesOf(says(10, at(0, 0), 5, at(0, 0)))),
		"a body of 8021 bytes":     framed(bytesOf(with(entryX, strings.Repeat("a", 8001)))),
		"any bytes":                []byte("gyttja, gyttja, gyttja, gyttja, gyttja"),
	} {
		for _, l := range [][]api.Entry{nil, {entryX}, {entryY, entryX, entryX, entryD}} {
			begun := frames(l...)
			// A whole frame further behind is not reached.
			for _, behind := range [][]byte{nil, frames(entryZ)} {
				if name == "a byte" || name == "seven bytes" || name == "no body" || name == "nothing" {
					behind = nil
				}
				m, n := office.Scan(slices.Concat(begun, b, behind))
				if n != len(begun) || !slices.Equal(m, l) {
					t.Error(name, len(l), m, n)
				}
			}
		}
	}
	longest := with(entryX, strings.Repeat("a", 8000))
	if l, n := office.Scan(frames(longest, entryY)); n != 8028+28 || !slices.Equal(l, []api.Entry{longest, entryY}) {
		t.Error(n)
	}
}

// P8.5: a scan of frames and of anything behind them, and of any beginning of them.
func TestScan(t *testing.T) {
	d := dice(3)
	for range 2000 {
		var l []api.Entry
		ends := []int{0}
		for range d.IntN(6) {
			l = append(l, someEntry(d, d.IntN(2) == 0))
			ends = append(ends, len(frames(l...)))
		}
		b := frames(l...)
		behind := make([]byte, d.IntN(40))
		for i := range behind {
			behind[i] = byte(d.IntN(2) * d.IntN(256))
		}
		m, n := office.Scan(append(slices.Clone(b), behind...))
		if len(m) < len(l) || n < len(b) || !slices.Equal(m[:len(l)], l) || n == len(b) && len(m) != len(l) {
			t.Fatal(l, m, n)
		}
		cut := d.IntN(len(b) + 1)
		whole := 0
		for whole+1 < len(ends) && ends[whole+1] <= cut {
			whole++
		}
		if m, n := office.Scan(b[:cut]); n != ends[whole] || !slices.Equal(m, l[:whole]) {
			t.Fatal(cut, ends, l, m, n)
		}
	}
}

// P8.1, P8.5: the bytes that a scan of any bytes takes are the frames of what it returns.
func FuzzScan(f *testing.F) {
	f.Add(frames(example().Entries...))
	f.Add(fileOf(1, []api.Entry{entryX}, []api.Entry{entryY}))
	f.Fuzz(func(t *testing.T, b []byte) {
		l, n := office.Scan(b)
		if n > len(b) || !bytes.Equal(b[:n], frames(l...)) {
			t.Error(l, n)
		}
		if m, k := office.Scan(b[n:]); k != 0 || len(m) != 0 {
			t.Error(m, k)
		}
	})
}

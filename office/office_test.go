package office_test

import (
	"bytes"
	"slices"
	"strings"
	"testing"

	"gyttja/api"
	"gyttja/office"
)

// P8.1: entries at all limits are valid.
func TestCheckEntry(t *testing.T) {
	good := []api.Entry{
		entryX, entryZ, entryD, entryT, entryU,
		sheet(at(7, 9999), 100000), sheet(at(0, 0), 0),
		says(api.EntCorrect, at(7, 9999), 0, at(7, 9999)), says(api.EntWithdraw, at(0, 0), 0, at(0, 0)),
		says(api.EntDoubt, at(0, 0), 0, at(7, 0)), says(api.EntTrust, at(0, 0), 0, at(0, 9999)),
		with(entryX, strings.Repeat("a", 8000)), with(entryZ, strings.Repeat("\xff", 8000)), with(entryZ, "\x00\n"),
		{Kind: api.EntNote, Reader: 99}, {Kind: api.EntTrust, Reader: 99},
	}
	for kind := api.EntSheet; kind <= api.EntTrust; kind++ {
		good = append(good, says(kind, at(0, 0), 0, api.Place{}))
		if kind <= api.EntCorrect {
			good = append(good, with(says(kind, at(0, 0), 0, api.Place{}), "some text"))
		}
	}
	for _, x := range good {
		if e := office.CheckEntry(x); e != api.OK {
			t.Error(x.At, x.Kind, x.Hour, x.Of, len(x.Text), e)
		}
	}
	for _, x := range badEntries() {
		if e := office.CheckEntry(x); e != api.ErrEntry {
			t.Error(x.At, x.Kind, x.Hour, x.Reader, x.Of, len(x.Text), e)
		}
	}
}

// P8.1: the chapter's example, and an entry in which no two numbers are alike.
func TestEncode(t *testing.T) {
	b, e := office.Encode(with(entryX, "ab"))
	if want := "\x00\x00\x00\x00\x00\x01\x00\x00\x00\x05\x00\x00\x00\x00\x00\x00\x00\x00\x00\x02ab"; string(b) != want || e != api.OK {
		t.Errorf("%x %d", b, e)
	}
	x := api.Entry{At: at(3, 0x1234), Kind: api.EntCorrect, Hour: 0x12345, Reader: 0x42, Of: at(7, 0x2008), Text: "\xff\x00"}
	b, e = office.Encode(x)
	if want := "\x03\x00\x00\x12\x34\x06\x00\x01\x23\x45\x42\x07\x00\x00\x20\x08\x00\x00\x00\x02\xff\x00"; string(b) != want || e != api.OK {
		t.Errorf("%x %d", b, e)
	}
	b, e = office.Encode(with(entryX, strings.Repeat("a", 8000)))
	if e != api.OK || len(b) != 8020 || !bytes.Equal(b[16:20], []byte{0, 0, 0x1f, 0x40}) {
		t.Error(len(b), e)
	}
	for _, x := range badEntries() {
		if b, e := office.Encode(x); e != api.ErrEntry || len(b) != 0 {
			t.Error(x.At, x.Kind, b, e)
		}
	}
}

// P8.1: bytes of which no valid entry has them.
func TestDecodeNone(t *testing.T) {
	good := bytesOf(with(entryX, "ab"))
	bad := [][]byte{nil, {}, good[:21], append(slices.Clone(good), 0), good[:20], good[:19], make([]byte, 20), bytesOf(with(entryX, strings.Repeat("a", 8001)))}
	for at, values := range map[int][]byte{
		0: {8, 255}, 1: {1, 128, 255}, 2: {1}, 3: {255}, 5: {0, 10, 255}, 6: {1, 128, 255}, 7: {2}, 10: {100, 255}, 11: {1, 8, 255}, 12: {1, 128}, 15: {1}, 16: {1, 128, 255}, 17: {1}, 18: {1}, 19: {0, 1, 3},
	} {
		for _, c := range values {
			b := slices.Clone(good)
			b[at] = c
			bad = append(bad, b)
		}
	}
	for _, x := range badEntries() {
		if min(x.At.Office, x.At.Seq, x.Kind, x.Hour, x.Reader, x.Of.Office, x.Of.Seq) >= 0 && max(x.At.Office, x.Kind, x.Reader, x.Of.Office) < 256 && max(x.At.Seq, x.Hour, x.Of.Seq) < 1<<32 {
			bad = append(bad, bytesOf(x))
		}
	}
	for _, b := range bad {
		if x, e := office.Decode(b); e != api.ErrEntry || x != (api.Entry{}) {
			t.Errorf("%x %v %d", b[:min(len(b), 40)], x.At, e)
		}
	}
}

// P8.5: entries and bytes name each other.
func TestBytes(t *testing.T) {
	d := dice(1)
	for range 20000 {
		x := someEntry(d, d.IntN(2) == 0)
		b, e := office.Encode(x)
		if e != api.OK || !bytes.Equal(b, bytesOf(x)) {
			t.Fatal(x, b, e)
		}
		if y, e := office.Decode(b); e != api.OK || y != x {
			t.Fatal(x, y, e)
		}
		b[d.IntN(len(b))] ^= 1 << d.IntN(8)
		y, e := office.Decode(b)
		if e == api.OK {
			if c, e := office.Encode(y); e != api.OK || !bytes.Equal(b, c) {
				t.Fatalf("%x %x %d", b, c, e)
			}
		} else if e != api.ErrEntry || y != (api.Entry{}) {
			t.Fatal(b, y, e)
		}
	}
	long := with(entryZ, strings.Repeat("\x80a", 4000))
	if x, e := office.Decode(first(office.Encode(long))); e != api.OK || x != long {
		t.Error(e)
	}
}

// P8.1, P8.5: of any bytes Decode tells an entry exactly if they are its bytes.
func FuzzDecode(f *testing.F) {
	for _, x := range example().Entries {
		f.Add(bytesOf(x))
	}
	f.Add(bytesOf(with(entryX, "ab")))
	f.Fuzz(func(t *testing.T, b []byte) {
		x, e := office.Decode(b)
		if e != api.OK {
			if e != api.ErrEntry || x != (api.Entry{}) {
				t.Error(x, e)
			}
			return
		}
		if c, e := office.Encode(x); e != api.OK || !bytes.Equal(b, c) {
			t.Errorf("%x %x %d", b, c, e)
		}
	})
}

package office_test

import (
	"bytes"
	"cmp"
	"encoding/binary"
	"hash/crc32"
	"math"
	"math/rand/v2"
	"slices"
	"strings"
	"testing"

	"gyttja/api"
	"gyttja/office"
)

// extremes are numbers at and beyond all limits.
var extremes = []int{math.MinInt, -1 << 32, -1, 0, 1, 5, 6, 7, 8, 9, 10, 99, 100, 255, 256, 9999, 10000, 100000, 100001, 1000000000, 1 << 32, math.MaxInt}

func dice(seed uint64) *rand.Rand { return rand.New(rand.NewPCG(seed, 8)) }

func first[T any](x T, _ api.Errno) T { return x }

func at(office, seq int) api.Place { return api.Place{Office: office, Seq: seq} }

// says is an entry without a text, of any kind.
func says(kind int, at api.Place, hour int, of api.Place) api.Entry {
	return api.Entry{At: at, Kind: kind, Hour: hour, Of: of}
}

// sheet is a base entry without a text.
func sheet(at api.Place, hour int) api.Entry { return says(api.EntSheet, at, hour, api.Place{}) }

// with is an entry with another text.
func with(x api.Entry, text string) api.Entry {
	x.Text = text
	return x
}

// bookOf has entries in the order of their places.
func bookOf(l ...api.Entry) api.Book {
	l = slices.Clone(l)
	slices.SortFunc(l, func(x, y api.Entry) int { return order(x.At, y.At) })
	return api.Book{Entries: l}
}

func order(p, q api.Place) int { return 10000*p.Office + p.Seq - 10000*q.Office - q.Seq }

func sameBooks(a, b api.Book) bool { return slices.Equal(a.Entries, b.Entries) }

// The base entries and what is said of them, of the chapter's examples.
var (
	entryX = sheet(at(0, 0), 5)
	entryY = sheet(at(1, 0), 6)
	entryZ = says(api.EntCorrect, at(0, 1), 7, at(0, 0))
	entryD = says(api.EntDoubt, at(1, 1), 8, at(0, 1))
	entryT = says(api.EntTrust, at(2, 0), 9, at(0, 1))
	entryU = says(api.EntWithdraw, at(1, 2), 10, at(0, 1))
)

func example() api.Book { return bookOf(entryX, entryY, entryZ, entryD, entryT, entryU) }

// long is a book of so many base entries.
func long(n int) api.Book {
	var b api.Book
	for i := range n {
		b.Entries = append(b.Entries, sheet(at(i/40, i%40), i))
	}
	return b
}

// badEntries are entries that are not valid.
func badEntries() []api.Entry {
	l := []api.Entry{{}}
	for _, p := range []api.Place{at(-1, 0), at(8, 0), at(0, -1), at(0, 10000), at(256, 0), at(0, 1<<32)} {
		l = append(l, sheet(p, 5))
		for _, kind := range []int{api.EntCorrect, api.EntWithdraw, api.EntDoubt, api.EntTrust} {
			l = append(l, says(kind, at(0, 0), 5, p))
		}
	}
	for _, kind := range []int{-1, 0, 10, 257, math.MaxInt, math.MinInt} {
		l = append(l, says(kind, at(0, 0), 5, api.Place{}))
	}
	for kind := api.EntSheet; kind <= api.EntNote; kind++ {
		l = append(l, says(kind, at(0, 0), 5, at(0, 1)), says(kind, at(1, 0), 5, at(1, 0)))
	}
	for _, n := range []int{-1, 100001, math.MaxInt, math.MinInt, 1 << 32} {
		l = append(l, sheet(at(0, 0), n))
	}
	for _, n := range []int{-1, 100, 256, math.MaxInt, math.MinInt} {
		l = append(l, api.Entry{Kind: api.EntNote, Reader: n})
	}
	for _, kind := range []int{api.EntWithdraw, api.EntDoubt, api.EntTrust} {
		l = append(l, with(says(kind, at(0, 1), 5, at(0, 0)), "a"))
	}
	return append(l, with(entryX, strings.Repeat("a", 8001)), with(entryZ, strings.Repeat("a", 8001)))
}

// badBooks are books that are not valid.
func badBooks() []api.Book {
	l := []api.Book{
		long(201),
		{Entries: []api.Entry{entryX, entryX}},
		{Entries: []api.Entry{entryX, with(entryX, "a")}},
		{Entries: []api.Entry{entryZ, entryX}},
		{Entries: []api.Entry{entryY, entryZ}},
		{Entries: []api.Entry{entryX, entryY, entryZ}},
	}
	for _, x := range badEntries() {
		l = append(l, api.Book{Entries: []api.Entry{x}})
	}
	return l
}

func someText(d *rand.Rand) string {
	b := make([]byte, d.IntN(4))
	for i := range b {
		b[i] = byte(d.IntN(256))
	}
	return string(b)
}

// someEntry is a valid entry; among few places and hours, if narrow, and of all otherwise.
func someEntry(d *rand.Rand, narrow bool) api.Entry {
	place := func() api.Place {
		if narrow {
			return at(d.IntN(3), d.IntN(3))
		}
		return at(d.IntN(8), d.IntN(10000))
	}
	x := api.Entry{At: place(), Kind: 1 + d.IntN(9), Hour: d.IntN(100001), Reader: d.IntN(100)}
	if narrow {
		x.Hour, x.Reader = d.IntN(8), d.IntN(2)
		x.Kind = []int{api.EntSheet, api.EntAsh, api.EntNote, api.EntCorrect, api.EntCorrect, api.EntWithdraw, api.EntDoubt, api.EntTrust}[d.IntN(8)]
	}
	if x.Kind >= api.EntCorrect {
		x.Of = place()
	}
	if x.Kind <= api.EntCorrect {
		x.Text = someText(d)
	}
	return x
}

// someEntries are entries of few places, each once, in any order.
func someEntries(d *rand.Rand, most int) []api.Entry {
	var l []api.Entry
	for range d.IntN(most + 1) {
		x := someEntry(d, true)
		if !slices.ContainsFunc(l, func(y api.Entry) bool { return x.At == y.At }) {
			l = append(l, x)
		}
	}
	return l
}

func shuffled(d *rand.Rand, l []api.Entry) []api.Entry {
	l = slices.Clone(l)
	d.Shuffle(len(l), func(i, j int) { l[i], l[j] = l[j], l[i] })
	return l
}

// some are entries of a list, in its order.
func some(d *rand.Rand, l []api.Entry) []api.Entry {
	return slices.DeleteFunc(slices.Clone(l), func(api.Entry) bool { return d.IntN(2) == 0 })
}

// told replays what is known at an hour, the earliest entry first, and tells the heirs of the base entries that stand by their places.
func told(b api.Book, hour int) map[api.Place]api.Place {
	type state struct {
		base, withdrawn, doubted bool
		corrections              []api.Place
	}
	l := slices.DeleteFunc(slices.Clone(b.Entries), func(x api.Entry) bool { return x.Hour > hour })
	slices.SortStableFunc(l, func(x, y api.Entry) int { return cmp.Compare(x.Hour, y.Hour) })
	states := map[api.Place]*state{}
	for _, x := range l {
		if s := states[x.Of]; s != nil {
			switch x.Kind {
			case api.EntCorrect:
				s.corrections = append(s.corrections, x.At)
			case api.EntWithdraw:
				s.withdrawn = true
			case api.EntDoubt:
				s.doubted = true
			case api.EntTrust:
				s.doubted = false
			}
		}
		states[x.At] = &state{base: x.Kind <= api.EntNote}
	}
	heirs := map[api.Place]api.Place{}
	for p, s := range states {
		heir := p
		for i := len(states[heir].corrections) - 1; i >= 0; i-- {
			if c := states[heir].corrections[i]; !states[c].withdrawn {
				heir = c
				i = len(states[heir].corrections)
			}
		}
		if s.base && !s.withdrawn && !states[heir].doubted {
			heirs[p] = heir
		}
	}
	return heirs
}

// bytesOf writes any entry whose numbers have room in its bytes, be it valid or not.
func bytesOf(x api.Entry) []byte {
	b := []byte{byte(x.At.Office)}
	b = binary.BigEndian.AppendUint32(b, uint32(x.At.Seq))
	b = append(b, byte(x.Kind))
	b = binary.BigEndian.AppendUint32(b, uint32(x.Hour))
	b = append(b, byte(x.Reader), byte(x.Of.Office))
	b = binary.BigEndian.AppendUint32(b, uint32(x.Of.Seq))
	b = binary.BigEndian.AppendUint32(b, uint32(len(x.Text)))
	return append(b, x.Text...)
}

// framed writes bytes as a frame.
func framed(body []byte) []byte {
	b := binary.BigEndian.AppendUint32(nil, uint32(len(body)))
	b = binary.BigEndian.AppendUint32(b, crc32.ChecksumIEEE(body))
	return append(b, body...)
}

// frames are those of entries, one behind the other.
func frames(l ...api.Entry) []byte {
	var b []byte
	for _, x := range l {
		b = append(b, framed(bytesOf(x))...)
	}
	return b
}

var seal = make([]byte, 8)

func head(generation int) []byte {
	b := binary.BigEndian.AppendUint32([]byte("gyttja"), uint32(generation))
	return binary.BigEndian.AppendUint32(b, crc32.ChecksumIEEE(b))
}

// fileOf is the bytes of a file that counts.
func fileOf(generation int, packed, behind []api.Entry) []byte {
	return slices.Concat(head(generation), frames(packed...), seal, frames(behind...))
}

// shelfOf has two files, all firm.
func shelfOf(zero, one []byte) api.Shelf {
	return api.Shelf{Files: [2]api.File{{Firm: zero}, {Firm: one}}}
}

// on is what is on a file.
func on(f api.File) []byte { return slices.Concat(f.Firm, f.Loose) }

func sameFiles(f, g api.File) bool {
	return bytes.Equal(f.Firm, g.Firm) && bytes.Equal(f.Loose, g.Loose)
}

func sameShelves(s, r api.Shelf) bool {
	return sameFiles(s.Files[0], r.Files[0]) && sameFiles(s.Files[1], r.Files[1])
}

func sameStores(m, n api.Store) bool {
	return sameBooks(m.Book, n.Book) && m.File == n.File && m.Generation == n.Generation
}

func isZero(s api.Shelf, m api.Store) bool {
	return sameShelves(s, api.Shelf{}) && sameStores(m, api.Store{})
}

// copied is a shelf in memory of its own, with room behind each of its bytes, which is filled.
func copied(s api.Shelf) api.Shelf {
	roomy := func(b []byte) []byte {
		room := append(slices.Clone(b), bytes.Repeat([]byte{77}, 50)...)
		return room[:len(b)]
	}
	for i, f := range s.Files {
		s.Files[i] = api.File{Firm: roomy(f.Firm), Loose: roomy(f.Loose)}
	}
	return s
}

// put appends entries to a journal.
func put(t *testing.T, s api.Shelf, m api.Store, l ...api.Entry) (api.Shelf, api.Store) {
	t.Helper()
	for _, x := range l {
		r, n, e := office.Append(s, m, x)
		if e != api.OK {
			t.Fatal(x.At, e)
		}
		s, m = r, n
	}
	return s, m
}

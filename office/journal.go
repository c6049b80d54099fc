package office

import (
	"bytes"
	"slices"

	"gyttja/api"
)

// How the head of a generation begins, where it has what, and how many bytes it has.
const (
	headName     = "gyttja"
	atGeneration = 6
	atHeadSum    = 10
	headBytes    = 14
)

const maxGeneration = 1000000000

// head is how a file of a generation begins.
func head(generation int) []byte {
	b := make([]byte, headBytes)
	copy(b, headName)
	putNumber(b[atGeneration:], uint32(generation))
	putNumber(b[atHeadSum:], Sum(b[:atHeadSum]))
	return b
}

// seal stands behind the entries of a file that was written as a whole: a file without it does not count.
func seal() []byte { return framed(nil) }

// New returns an empty journal.
func New() (api.Shelf, api.Store) {
	var s api.Shelf
	s.Files[0].Firm = slices.Concat(head(1), seal())
	return s, api.Store{Generation: 1}
}

// record is what a file that counts has: the entries ahead of the seal and behind it, and the bytes up to its end.
type record struct {
	generation     int
	packed, behind []api.Entry
	written        []byte
}

// recordOf reads a file; it is not ok if the file does not count.
func recordOf(f api.File) (r record, ok bool) {
	b := slices.Concat(f.Firm, f.Loose)
	if len(b) < headBytes {
		return record{}, false
	}
	generation := int(number(b[atGeneration:]))
	if !within(generation, 1, maxGeneration) || !bytes.HasPrefix(b, head(generation)) {
		return record{}, false
	}
	packed, size := Scan(b[headBytes:])
	end := headBytes + size
	if !bytes.HasPrefix(b[end:], seal()) {
		return record{}, false
	}
	end += len(seal())
	behind, size := Scan(b[end:])
	end += size
	return record{generation, packed, behind, b[:end]}, true
}

// Open reads a journal.
func Open(s api.Shelf) (api.Shelf, api.Store, api.Errno) {
	var meant record
	file := none
	for i, f := range s.Files {
		if r, ok := recordOf(f); ok && r.generation > meant.generation {
			meant, file = r, i
		}
	}
	if file == none {
		return api.Shelf{}, api.Store{}, api.ErrDamaged
	}
	l, ok := joined(meant.packed, meant.behind)
	if !ok || len(l) > api.MaxEntries {
		return api.Shelf{}, api.Store{}, api.ErrDamaged
	}
	var opened api.Shelf
	opened.Files[file].Firm = meant.written
	return opened, api.Store{Book: api.Book{Entries: l}, File: file, Generation: meant.generation}, api.OK
}

// isAt reports whether a shelf has what a store says, and nothing behind the end of its file: there, a frame would be lost.
func isAt(s api.Shelf, m api.Store) bool {
	opened, n, e := Open(s)
	if e != api.OK || n.File != m.File || n.Generation != m.Generation || !sameBooks(n.Book, m.Book) {
		return false
	}
	return len(opened.Files[n.File].Firm) == sizeOf(s.Files[n.File])
}

func sizeOf(f api.File) int { return len(f.Firm) + len(f.Loose) }

// act is something that is done to a shelf: it returns the shelf behind it, in new memory.
type act func(api.Shelf) api.Shelf

// changed returns an act that changes one file.
func changed(file int, change func(f *api.File)) act {
	return func(s api.Shelf) api.Shelf {
		s = copyOf(s)
		change(&s.Files[file])
		return s
	}
}

// emptied empties a file.
func emptied(file int) act {
	return changed(file, func(f *api.File) { *f = api.File{} })
}

// written puts bytes behind the loose ones of a file.
func written(file int, b []byte) act {
	return changed(file, func(f *api.File) { f.Loose = append(f.Loose, b...) })
}

func copyOf(s api.Shelf) api.Shelf {
	for i, f := range s.Files {
		s.Files[i] = api.File{Firm: slices.Clone(f.Firm), Loose: slices.Clone(f.Loose)}
	}
	return s
}

// Append writes an entry behind a journal.
func Append(s api.Shelf, m api.Store, x api.Entry) (api.Shelf, api.Store, api.Errno) {
	if !isAt(s, m) {
		return api.Shelf{}, api.Store{}, api.ErrShelf
	}
	b, e := Add(m.Book, x)
	if e != api.OK {
		return api.Shelf{}, api.Store{}, e
	}
	isThere := sameBooks(b, m.Book)
	m.Book = b
	if isThere {
		return copyOf(s), m, api.OK
	}
	frame, _ := Frame(x)
	if sizeOf(s.Files[m.File])+len(frame) > api.MaxFile {
		return api.Shelf{}, api.Store{}, api.ErrFull
	}
	return written(m.File, frame)(s), m, api.OK
}

// Sync makes what was written firm.
func Sync(s api.Shelf) api.Shelf {
	return Crash(s, [2]int{len(s.Files[0].Loose), len(s.Files[1].Loose)})
}

// Crash keeps so many bytes of what was loose.
func Crash(s api.Shelf, kept [2]int) api.Shelf {
	for i, f := range s.Files {
		n := min(max(kept[i], 0), len(f.Loose))
		s.Files[i] = api.File{Firm: slices.Concat(f.Firm, f.Loose[:n])}
	}
	return s
}

// Pack returns, step by step, the shelves on the way to a journal of the book alone in the other file.
func Pack(s api.Shelf, m api.Store) ([]api.Shelf, api.Store, api.Errno) {
	if !isAt(s, m) {
		return nil, api.Store{}, api.ErrShelf
	}
	parts := [][]byte{head(m.Generation + 1)}
	for _, x := range m.Book.Entries {
		frame, _ := Frame(x)
		parts = append(parts, frame)
	}
	if m.Generation == maxGeneration || len(slices.Concat(parts...))+len(seal()) > api.MaxFile {
		return nil, api.Store{}, api.ErrFull
	}
	other := 1 - m.File
	var way []api.Shelf
	for _, do := range packing(m.File, other, parts) {
		s = do(s)
		way = append(way, s)
	}
	b := api.Book{Entries: slices.Clone(m.Book.Entries)}
	return way, api.Store{Book: b, File: other, Generation: m.Generation + 1}, api.OK
}

// packing returns the acts of a Pack. The seal comes only when all else is firm, and the file that was written so far goes only when the seal is: so one of them has the whole book at any time.
func packing(file, other int, parts [][]byte) []act {
	acts := []act{Sync, emptied(other)}
	for _, b := range parts {
		acts = append(acts, written(other, b))
	}
	return append(acts, Sync, written(other, seal()), Sync, emptied(file))
}

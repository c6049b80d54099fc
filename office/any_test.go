package office_test

import (
	"slices"
	"strings"
	"testing"

	"gyttja/api"
	"gyttja/office"
)

// P1, R2: no function panics, whatever its arguments are; beside an error all else is zero.
func TestAnyArguments(t *testing.T) {
	s, m := office.New()
	s, m = put(t, s, m, entryX)
	for _, n := range extremes {
		for _, k := range extremes {
			for _, x := range []api.Entry{
				{At: at(n, k), Kind: k, Hour: n, Reader: k, Of: at(k, n), Text: "a"}, says(api.EntNote, at(n, k), k, at(0, 0)), says(api.EntDoubt, at(k, n), n, at(n, k)), says(api.EntCorrect, at(0, 0), n, at(k, k)), {Kind: n, Reader: k}, {At: at(1, 0), Kind: api.EntAsh, Reader: n, Hour: k},
			} {
				b := api.Book{Entries: []api.Entry{x}}
				good := office.CheckEntry(x) == api.OK
				if good != (office.CheckBook(b) == api.OK) {
					t.Error(x)
				}
				bytes, e := office.Encode(x)
				frame, f := office.Frame(x)
				if good != (e == api.OK) || e != f || !good && len(bytes)+len(frame) > 0 {
					t.Error(x, bytes, frame, e, f)
				}
				if c, e := office.Add(example(), x); e != api.OK && len(c.Entries) > 0 {
					t.Error(x, c, e)
				}
				if c, e := office.Join(b, example()); e != api.OK && len(c.Entries) > 0 || !good && e != api.ErrBook {
					t.Error(x, c, e)
				}
				next, holes, standing := office.Next(b, n), office.Holes(b), office.Standing(b, k)
				came, went := office.Changes(b, n, k)
				if !good && (next != -1 || len(holes)+len(standing)+len(came)+len(went) > 0) {
					t.Error(x, next, holes, standing, came, went)
				}
				if p, e := office.Heir(b, x.At, n); e != api.OK && p != (api.Place{}) {
					t.Error(x, p, e)
				}
				if r, l, e := office.Append(s, m, x); e != api.OK && !isZero(r, l) {
					t.Error(x, e)
				}
				odd := api.Store{Book: b, File: n, Generation: k}
				if r, l, e := office.Append(s, odd, x); e != api.ErrShelf || !isZero(r, l) {
					t.Error(odd, e)
				}
				if way, l, e := office.Pack(s, odd); e != api.ErrShelf || len(way) > 0 || !isZero(api.Shelf{}, l) {
					t.Error(odd, e)
				}
			}
			if _, r, e := office.Open(office.Crash(s, [2]int{n, k})); e != api.OK || n >= 28 != (len(r.Book.Entries) == 1) {
				t.Error(n, k, e)
			}
			if p, e := office.Heir(example(), at(n, k), k); e != api.OK && p != (api.Place{}) {
				t.Error(n, k, p, e)
			}
			office.Changes(example(), n, k)
		}
	}
}

// R3: empty lists and strings of bytes in place of nil change nothing.
func TestEmptyLists(t *testing.T) {
	bare, empty := api.Book{}, api.Book{Entries: []api.Entry{}}
	if e := office.CheckBook(empty); e != api.OK {
		t.Error(e)
	}
	for _, pair := range [][2]api.Book{{bare, empty}, {empty, bare}, {empty, empty}, {bare, bare}} {
		if b, e := office.Join(pair[0], pair[1]); e != api.OK || len(b.Entries) != 0 {
			t.Error(b, e)
		}
	}
	for _, b := range []api.Book{bare, empty} {
		if c, e := office.Add(b, entryX); e != api.OK || !sameBooks(c, bookOf(entryX)) {
			t.Error(c, e)
		}
		came, went := office.Changes(b, 0, 9)
		if len(office.Holes(b))+len(office.Standing(b, 9))+len(came)+len(went) != 0 || office.Next(b, 0) != 0 {
			t.Error(b)
		}
		if _, e := office.Heir(b, at(0, 0), 9); e != api.ErrEntry {
			t.Error(e)
		}
	}
	for _, none := range [][]byte{nil, {}} {
		if l, n := office.Scan(none); len(l) != 0 || n != 0 || office.Sum(none) != 0 {
			t.Error(l, n)
		}
		if _, e := office.Decode(none); e != api.ErrEntry {
			t.Error(e)
		}
		s := api.Shelf{Files: [2]api.File{{Firm: fileOf(1, nil, nil), Loose: none}, {Firm: none, Loose: none}}}
		for _, b := range []api.Book{bare, empty} {
			m := api.Store{Book: b, Generation: 1}
			if r, n, e := office.Append(s, m, entryX); e != api.OK || !sameShelves(r, api.Shelf{Files: [2]api.File{{Firm: fileOf(1, nil, nil), Loose: frames(entryX)}}}) || !sameBooks(n.Book, bookOf(entryX)) {
				t.Error(r, n, e)
			}
			if way, n, e := office.Pack(s, m); e != api.OK || len(way) != 7 || len(n.Book.Entries) != 0 {
				t.Error(n, e)
			}
		}
		if r, _, e := office.Open(s); e != api.OK || !sameShelves(r, shelfOf(fileOf(1, nil, nil), nil)) {
			t.Error(r, e)
		}
	}
}

// spoil changes all bytes of a shelf, and the room behind them.
func spoil(s api.Shelf) {
	for _, f := range s.Files {
		for _, b := range [][]byte{f.Firm, f.Loose} {
			b = b[:cap(b)]
			for i := range b {
				b[i] = 99
			}
		}
	}
}

// R4: no result shares memory with an argument, be it behind the end of that, and no two results share any.
func TestMemory(t *testing.T) {
	plain, _ := office.New()
	plain.Files[0].Loose = frames(entryX, entryU)
	plain.Files[1] = api.File{Firm: []byte("any"), Loose: []byte("thing")}
	store := func() api.Store {
		b := bookOf(entryX, entryU)
		b.Entries = append(b.Entries, entryY)[:2]
		return api.Store{Book: b, Generation: 1}
	}
	for name, do := range map[string]func(s api.Shelf, m api.Store) ([]api.Shelf, api.Store){
		"Append": func(s api.Shelf, m api.Store) ([]api.Shelf, api.Store) {
			r, n, _ := office.Append(s, m, entryZ)
			return []api.Shelf{r}, n
		},
		"Append again": func(s api.Shelf, m api.Store) ([]api.Shelf, api.Store) {
			r, n, _ := office.Append(s, m, entryU)
			return []api.Shelf{r}, n
		},
		"Pack": func(s api.Shelf, m api.Store) ([]api.Shelf, api.Store) {
			way, n, _ := office.Pack(s, m)
			return way, n
		},
		"Open": func(s api.Shelf, m api.Store) ([]api.Shelf, api.Store) {
			r, n, _ := office.Open(s)
			return []api.Shelf{r}, n
		},
		"Sync": func(s api.Shelf, m api.Store) ([]api.Shelf, api.Store) { return []api.Shelf{office.Sync(s)}, m },
		"Crash": func(s api.Shelf, m api.Store) ([]api.Shelf, api.Store) {
			return []api.Shelf{office.Crash(s, [2]int{5, 5})}, m
		},
		"Crash, all kept": func(s api.Shelf, m api.Store) ([]api.Shelf, api.Store) {
			return []api.Shelf{office.Crash(s, [2]int{99, 99})}, m
		},
	} {
		due, _ := do(copied(plain), store())
		s, m := copied(plain), store()
		way, n := do(s, m)
		if len(way) == 0 || len(way[0].Files[0].Firm) == 0 {
			t.Fatal(name)
		}
		for i, r := range way {
			if !sameShelves(r, due[i]) {
				t.Fatal(name, "another result")
			}
			spoil(r)
			for k := i + 1; k < len(way); k++ {
				if !sameShelves(way[k], due[k]) {
					t.Fatal(name, "shares", i, k)
				}
			}
		}
		if !sameShelves(s, plain) || s.Files[0].Loose[:cap(s.Files[0].Loose)][len(s.Files[0].Loose)] != 77 || s.Files[1].Firm[:4][3] != 77 {
			t.Error(name, "spoils the shelf", s)
		}
		if name != "Sync" && !strings.HasPrefix(name, "Crash") {
			l := n.Book.Entries[:cap(n.Book.Entries)]
			for i := range l {
				l[i] = entryD
			}
		}
		if !sameBooks(m.Book, bookOf(entryX, entryU)) || m.Book.Entries[:3][2] != entryY {
			t.Error(name, "spoils the store", m)
		}
	}
}

// R4: no book that is handed in is changed, nor what lies behind its end.
func TestMemoryOfBooks(t *testing.T) {
	roomy := func() api.Book {
		l := append(example().Entries, entryX, entryX)
		return api.Book{Entries: l[:6]}
	}
	high := sheet(at(7, 0), 5)
	for name, do := range map[string]func(a, b api.Book) []api.Entry{
		"Add":          func(a, b api.Book) []api.Entry { return first(office.Add(a, high)).Entries },
		"Add again":    func(a, b api.Book) []api.Entry { return first(office.Add(a, entryU)).Entries },
		"Join":         func(a, b api.Book) []api.Entry { return first(office.Join(a, b)).Entries },
		"Join with it": func(a, b api.Book) []api.Entry { return first(office.Join(a, a)).Entries },
		"Join, alone":  func(a, b api.Book) []api.Entry { return first(office.Join(a, api.Book{})).Entries },
		"Join, behind": func(a, b api.Book) []api.Entry { return first(office.Join(api.Book{}, b)).Entries },
		"what they say": func(a, b api.Book) []api.Entry {
			office.Standing(a, 9)
			office.Changes(b, 7, 8)
			office.Holes(a)
			return nil
		},
	} {
		a, b := roomy(), roomy()
		l := do(a, b)
		for i := range l[:cap(l)] {
			l[:cap(l)][i] = entryD
		}
		for _, x := range []api.Book{a, b} {
			if !sameBooks(x, example()) || x.Entries[:8][6] != entryX || x.Entries[:8][7] != entryX {
				t.Error(name, x)
			}
		}
	}
	b := copied(shelfOf(frames(entryX), nil)).Files[0].Firm
	l, n := office.Scan(b)
	x, _ := office.Decode(b[8:])
	if office.Sum(b); !slices.Equal(b, frames(entryX)) || n != 28 || l[0] != x || x != entryX {
		t.Error(l, n, x)
	}
	text := []byte("ab")
	frame := frames(with(entryX, string(text)))
	m, _ := office.Scan(frame)
	frame[28] = 'c'
	if m[0].Text != "ab" {
		t.Error(m)
	}
}

// P6, P8.6: whatever two offices did on the way, if they have the same entries they tell the same.
func TestTwoOffices(t *testing.T) {
	d := dice(12)
	for range 300 {
		l := someEntries(d, 14)
		ways := [2]api.Book{}
		for i := range ways {
			s, m := office.New()
			for _, x := range shuffled(d, l) {
				s, m = put(t, s, m, x)
				if d.IntN(4) == 0 {
					s = office.Crash(s, [2]int{d.IntN(80), 0})
					s, m, _ = office.Open(s)
				}
				if way, n, e := office.Pack(s, m); e == api.OK && d.IntN(4) == 0 {
					s, m = way[len(way)-1], n
				}
			}
			b, e := office.Join(m.Book, bookOf(l...)) // what was lost is sent again
			if e != api.OK {
				t.Fatal(e)
			}
			ways[i] = b
		}
		if !sameBooks(ways[0], ways[1]) {
			t.Fatal(ways)
		}
		for hour := range 9 {
			if !slices.Equal(office.Standing(ways[0], hour), office.Standing(ways[1], hour)) {
				t.Fatal(hour, ways)
			}
		}
	}
}

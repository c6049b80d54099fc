package office_test

import (
	"bytes"
	"encoding/binary"
	"hash/crc32"
	"math"
	"math/rand/v2"
	"slices"
	"strings"
	"testing"

	"gyttja/api"
	"gyttja/office"
)

// P8.4: a new journal.
func TestNew(t *testing.T) {
	s, m := office.New()
	if !sameShelves(s, shelfOf(slices.Concat(head(1), seal), nil)) || !sameStores(m, api.Store{Generation: 1}) {
		t.Error(s, m)
	}
	if len(s.Files[0].Firm) != 22 || string(s.Files[0].Firm[:10]) != "gyttja\x00\x00\x00\x01" {
		t.Error(s.Files[0].Firm)
	}
	r, n, e := office.Open(s)
	if e != api.OK || !sameShelves(r, s) || !sameStores(n, m) {
		t.Error(r, n, e)
	}
}

// P8.4: the chapter's examples of a crash behind an Append.
func TestAppendAndCrash(t *testing.T) {
	s, m := office.New()
	s, m = put(t, s, m, entryX)
	if !bytes.Equal(s.Files[0].Loose, frames(entryX)) || len(s.Files[0].Firm) != 22 || !sameStores(m, api.Store{Book: bookOf(entryX), Generation: 1}) {
		t.Error(s, m)
	}
	for kept, want := range map[int]api.Book{5: {}, 1000: bookOf(entryX), -1: {}, 0: {}, 27: {}, 28: bookOf(entryX), math.MinInt: {}, math.MaxInt: bookOf(entryX)} {
		for _, other := range []int{-1, 0, 1000} {
			r, n, e := office.Open(office.Crash(s, [2]int{kept, other}))
			if e != api.OK || !sameStores(n, api.Store{Book: want, Generation: 1}) || !sameShelves(r, shelfOf(fileOf(1, nil, want.Entries), nil)) {
				t.Error(kept, r, n, e)
			}
		}
	}
	s, m = put(t, s, m, entryU, entryY)
	if !bytes.Equal(s.Files[0].Loose, frames(entryX, entryU, entryY)) || !sameBooks(m.Book, bookOf(entryX, entryY, entryU)) {
		t.Error(s, m)
	}
	r, n, e := office.Append(s, m, entryU)
	if e != api.OK || !sameShelves(r, s) || !sameStores(n, m) {
		t.Error("again", r, n, e)
	}
	s, m = put(t, office.Sync(s), m, entryZ)
	if !bytes.Equal(s.Files[0].Firm, fileOf(1, nil, []api.Entry{entryX, entryU, entryY})) || !bytes.Equal(s.Files[0].Loose, frames(entryZ)) {
		t.Error(s)
	}
}

// P8.4: what is loose becomes firm, or is lost from some byte on, in both files.
func TestSyncAndCrash(t *testing.T) {
	s := api.Shelf{Files: [2]api.File{{Firm: []byte("ab"), Loose: []byte("cde")}, {Firm: []byte("f"), Loose: []byte("gh")}}}
	if r := office.Sync(s); !sameShelves(r, shelfOf([]byte("abcde"), []byte("fgh"))) {
		t.Error(r)
	}
	for _, c := range []struct {
		kept      [2]int
		zero, one string
	}{
		{[2]int{0, 0}, "ab", "f"}, {[2]int{1, 0}, "abc", "f"}, {[2]int{0, 1}, "ab", "fg"}, {[2]int{3, 2}, "abcde", "fgh"}, {[2]int{2, 3}, "abcd", "fgh"}, {[2]int{-1, -5}, "ab", "f"}, {[2]int{4, -1}, "abcde", "f"}, {[2]int{math.MaxInt, math.MinInt}, "abcde", "f"}, {[2]int{math.MinInt, math.MaxInt}, "ab", "fgh"},
	} {
		if r := office.Crash(s, c.kept); !sameShelves(r, shelfOf([]byte(c.zero), []byte(c.one))) {
			t.Error(c.kept, r)
		}
	}
	for _, r := range []api.Shelf{office.Sync(api.Shelf{}), office.Crash(api.Shelf{}, [2]int{5, -5})} {
		if !sameShelves(r, api.Shelf{}) {
			t.Error(r)
		}
	}
}

// P8.4: the shelves on the way of a Pack, byte by byte.
func TestPack(t *testing.T) {
	s, m := office.New()
	s, m = put(t, s, m, entryU, entryX)
	s.Files[1] = api.File{Firm: []byte("any"), Loose: []byte("thing")}
	old, book := fileOf(1, nil, []api.Entry{entryU, entryX}), frames(entryX, entryU)
	firm := func(zero []byte, one, loose []byte) api.Shelf {
		return api.Shelf{Files: [2]api.File{{Firm: zero}, {Firm: one, Loose: loose}}}
	}
	want := []api.Shelf{
		firm(old, []byte("anything"), nil),
		firm(old, nil, nil),
		firm(old, nil, head(2)),
		firm(old, nil, slices.Concat(head(2), frames(entryX))),
		firm(old, nil, slices.Concat(head(2), book)),
		firm(old, slices.Concat(head(2), book), nil),
		firm(old, slices.Concat(head(2), book), seal),
		firm(old, slices.Concat(head(2), book, seal), nil),
		firm(nil, slices.Concat(head(2), book, seal), nil),
	}
	way, n, e := office.Pack(s, m)
	if e != api.OK || len(way) != len(want) || !sameStores(n, api.Store{Book: m.Book, File: 1, Generation: 2}) {
		t.Fatal(len(way), n, e)
	}
	for i := range way {
		if !sameShelves(way[i], want[i]) {
			t.Error(i, way[i], want[i])
		}
	}
	// The way back, behind an entry that was appended to the other file.
	s, n = put(t, way[8], n, entryY)
	if !sameShelves(s, firm(nil, slices.Concat(head(2), book, seal), frames(entryY))) {
		t.Error(s)
	}
	way, m, e = office.Pack(s, n)
	if e != api.OK || len(way) != 10 || !sameStores(m, api.Store{Book: n.Book, Generation: 3}) {
		t.Fatal(len(way), m, e)
	}
	if !sameShelves(way[9], shelfOf(fileOf(3, []api.Entry{entryX, entryY, entryU}, nil), nil)) {
		t.Error(way[9])
	}
	s, m = office.New()
	if way, n, e := office.Pack(s, m); e != api.OK || len(way) != 7 || !sameShelves(way[6], shelfOf(nil, fileOf(2, nil, nil))) || !sameStores(n, api.Store{File: 1, Generation: 2}) {
		t.Error(way, n, e)
	}
}

// P8.4: which files count, and which one is meant.
func TestOpen(t *testing.T) {
	x, y := []api.Entry{entryX}, []api.Entry{entryY}
	good := fileOf(1, x, y)
	sum := func(b []byte) []byte { return binary.BigEndian.AppendUint32(b, crc32.ChecksumIEEE(b)) }
	cut := func(n int) []byte { return good[:len(good)-n] }
	for name, c := range map[string]struct {
		b       []byte
		entries []api.Entry
		end     int // -1: the file does not count
	}{
		"nothing":                        {nil, nil, -1},
		"a head":                         {head(1), nil, -1},
		"a head that is cut":             {head(1)[:13], nil, -1},
		"a head and a seal":              {fileOf(1, nil, nil), nil, 22},
		"a seal that is cut":             {fileOf(1, nil, nil)[:21], nil, -1},
		"a seal alone":                   {seal, nil, -1},
		"ahead of the seal":              {fileOf(1, x, nil), x, 50},
		"behind the seal":                {fileOf(1, nil, x), x, 50},
		"both":                           {good, bookOf(entryX, entryY).Entries, 78},
		"the seal is missing":            {slices.Concat(head(1), frames(entryX, entryY)), nil, -1},
		"a frame ahead is cut":           {slices.Concat(head(1), frames(entryX)[:27], seal), nil, -1},
		"no frame ahead of the seal":     {slices.Concat(head(1), []byte{1}, seal), nil, -1},
		"a frame behind is cut":          {cut(1), x, 50},
		"much of a frame behind is cut":  {cut(27), x, 50},
		"all of a frame behind is cut":   {cut(28), x, 50},
		"the seal is cut":                {cut(29), nil, -1},
		"zeros behind":                   {slices.Concat(good, seal), bookOf(entryX, entryY).Entries, 78},
		"a frame behind a second seal":   {slices.Concat(good, seal, frames(entryZ)), bookOf(entryX, entryY).Entries, 78},
		"the generation 0":               {fileOf(0, x, y), nil, -1},
		"the greatest generation":        {fileOf(1000000000, x, y), bookOf(entryX, entryY).Entries, 78},
		"one more":                       {fileOf(1000000001, x, y), nil, -1},
		"the generation 2^32 - 1":        {fileOf(1<<32-1, x, y), nil, -1},
		"another name":                   {slices.Concat(sum([]byte("gyttjA\x00\x00\x00\x01")), seal), nil, -1},
		"another sum":                    {slices.Concat(head(1)[:13], []byte{0}, seal), nil, -1},
		"another generation":             {slices.Concat(head(1)[:9], []byte{2}, head(1)[10:], seal), nil, -1},
		"an entry twice":                 {fileOf(1, x, x), x, 50 + 28},
		"an entry twice, ahead":          {fileOf(1, []api.Entry{entryX, entryY, entryX}, nil), bookOf(entryX, entryY).Entries, 106},
		"entries that fall":              {fileOf(1, y, x), bookOf(entryX, entryY).Entries, 78},
		"200 entries, and some twice":    {fileOf(1, long(200).Entries, long(9).Entries), long(200).Entries, 22 + 209*28},
		"more than may be in a new file": {fileOf(1, slices.Repeat(x, 5000), slices.Repeat(y, 5000)), bookOf(entryX, entryY).Entries, 22 + 10000*28},
	} {
		generation := 0
		if c.end != -1 {
			generation = int(binary.BigEndian.Uint32(c.b[6:]))
		}
		for file := range 2 {
			for _, loose := range []int{0, 1, len(c.b) / 2, len(c.b)} {
				var s, due api.Shelf
				s.Files[file] = api.File{Firm: c.b[:len(c.b)-min(loose, len(c.b))], Loose: c.b[len(c.b)-min(loose, len(c.b)):]}
				s.Files[1-file] = api.File{Firm: []byte("gyt"), Loose: []byte("tja")}
				if c.end != -1 {
					due.Files[file].Firm = c.b[:c.end]
				}
				r, m, e := office.Open(s)
				if c.end == -1 && (e != api.ErrDamaged || !isZero(r, m)) {
					t.Error(name, file, loose, r, m, e)
				}
				if c.end != -1 && (e != api.OK || !sameShelves(r, due) || !sameStores(m, api.Store{Book: api.Book{Entries: c.entries}, File: file, Generation: generation})) {
					t.Error(name, file, loose, r, m, e)
				}
			}
		}
	}
}

// P8.4: of two files that count that of the greater generation is meant, whatever the other one has.
func TestOpenBoth(t *testing.T) {
	x, y := []api.Entry{entryX}, []api.Entry{entryY}
	two := []api.Entry{entryX, with(entryX, "a")}
	for _, c := range []struct {
		zero, one []byte
		want      api.Store
	}{
		{fileOf(1, x, nil), fileOf(2, y, nil), api.Store{Book: bookOf(entryY), File: 1, Generation: 2}},
		{fileOf(2, x, nil), fileOf(1, y, nil), api.Store{Book: bookOf(entryX), File: 0, Generation: 2}},
		{fileOf(7, x, nil), fileOf(7, y, nil), api.Store{Book: bookOf(entryX), File: 0, Generation: 7}},
		{fileOf(1, x, nil), fileOf(2, y, nil)[:49], api.Store{Book: bookOf(entryX), File: 0, Generation: 1}},
		{fileOf(256, x, nil), fileOf(3, y, nil), api.Store{Book: bookOf(entryX), File: 0, Generation: 256}},
		{fileOf(1, two, nil), fileOf(2, y, nil), api.Store{Book: bookOf(entryY), File: 1, Generation: 2}},
		{fileOf(2, two, nil), fileOf(1, y, nil), api.Store{}},
		{fileOf(1, x, nil), fileOf(2, two, nil), api.Store{}},
		{fileOf(1, x, nil), fileOf(2, x, two), api.Store{}},
		{fileOf(1, two, nil), fileOf(1, y, nil), api.Store{}},
		{fileOf(1, x, nil), fileOf(2, long(200).Entries, []api.Entry{sheet(at(7, 0), 5)}), api.Store{}},
		{fileOf(0, x, nil), []byte("gyttja"), api.Store{}},
	} {
		s := shelfOf(c.zero, c.one)
		r, m, e := office.Open(s)
		if c.want.Generation == 0 {
			if e != api.ErrDamaged || !isZero(r, m) {
				t.Error(c.zero, c.one, m, e)
			}
			continue
		}
		var due api.Shelf
		due.Files[c.want.File] = s.Files[c.want.File]
		if e != api.OK || !sameStores(m, c.want) || !sameShelves(r, due) {
			t.Error(c.zero, c.one, m, e)
		}
	}
}

// P8.4: a store that is not that of the shelf.
func TestErrShelf(t *testing.T) {
	s, m := office.New()
	s, m = put(t, s, m, entryX, entryY)
	with0 := func(b []byte, loose []byte) api.Shelf {
		return api.Shelf{Files: [2]api.File{{Firm: b, Loose: loose}, s.Files[1]}}
	}
	two := on(s.Files[0])
	store := func(b api.Book, file, generation int) api.Store {
		return api.Store{Book: b, File: file, Generation: generation}
	}
	for name, c := range map[string]struct {
		s api.Shelf
		m api.Store
	}{
		"no shelf":                    {api.Shelf{}, m},
		"no store":                    {s, api.Store{}},
		"no entries":                  {s, store(api.Book{}, 0, 1)},
		"an entry less":               {s, store(bookOf(entryX), 0, 1)},
		"an entry more":               {s, store(bookOf(entryX, entryY, entryZ), 0, 1)},
		"another entry":               {s, store(bookOf(entryX, with(entryY, "a")), 0, 1)},
		"another order":               {s, store(api.Book{Entries: []api.Entry{entryY, entryX}}, 0, 1)},
		"a book that is not valid":    {s, store(api.Book{Entries: []api.Entry{entryX, entryX}}, 0, 1)},
		"the other file":              {s, store(m.Book, 1, 1)},
		"a file that there is not":    {s, store(m.Book, 2, 1)},
		"a file less":                 {s, store(m.Book, -1, 1)},
		"the next generation":         {s, store(m.Book, 0, 2)},
		"no generation":               {s, store(m.Book, 0, 0)},
		"a byte behind the end":       {with0(append(slices.Clone(two), 0), nil), m},
		"a loose byte behind the end": {with0(two, []byte{0}), m},
		"a cut frame behind the end":  {with0(two, frames(entryZ)[:27]), m},
		"a seal behind the end":       {with0(two, seal), m},
		"a damaged shelf":             {with0(two[:20], nil), api.Store{}},
		"unlike entries":              {shelfOf(fileOf(1, []api.Entry{entryX}, []api.Entry{with(entryX, "a")}), nil), store(bookOf(entryX), 0, 1)},
		"the other file is meant":     {shelfOf(fileOf(1, m.Book.Entries, nil), fileOf(2, m.Book.Entries, nil)), m},
	} {
		// Whatever else is wrong, ErrShelf is told.
		for _, x := range append(badEntries()[:2], entryX, entryZ, with(entryX, "b")) {
			if r, n, e := office.Append(c.s, c.m, x); e != api.ErrShelf || !isZero(r, n) {
				t.Error("Append", name, x, e)
			}
		}
		if way, n, e := office.Pack(c.s, c.m); e != api.ErrShelf || len(way) != 0 || !sameStores(n, api.Store{}) {
			t.Error("Pack", name, e)
		}
	}
}

// P8.4: bytes in the other file harm nothing, and stay behind an Append.
func TestOtherFile(t *testing.T) {
	for _, other := range [][]byte{[]byte("gyttja"), fileOf(1, []api.Entry{entryZ}, nil), slices.Concat(head(3), frames(entryD))} {
		s := shelfOf(fileOf(2, []api.Entry{entryX}, nil), other)
		s.Files[1].Firm, s.Files[1].Loose = other[:4], other[4:]
		_, m, e := office.Open(s)
		if e != api.OK {
			t.Fatal(e)
		}
		r, n, e := office.Append(s, m, entryY)
		if e != api.OK || !sameFiles(r.Files[1], s.Files[1]) || !bytes.Equal(r.Files[0].Loose, frames(entryY)) || !sameBooks(n.Book, bookOf(entryX, entryY)) {
			t.Error(r, n, e)
		}
		if r, n, e := office.Append(s, m, entryX); e != api.OK || !sameShelves(r, s) || !sameStores(n, m) {
			t.Error(r, n, e)
		}
		if way, _, e := office.Pack(s, m); e != api.OK || !sameShelves(way[len(way)-1], shelfOf(nil, fileOf(3, []api.Entry{entryX}, nil))) {
			t.Error(e)
		}
	}
}

// sized is an entry with a place and so many bytes of a frame.
func sized(seq, size int) api.Entry {
	return with(sheet(at(0, seq), 5), strings.Repeat("a", size-28))
}

// P8.4: the errors of Append behind ErrShelf, in their order; a file may have MaxFile bytes, and none more.
func TestAppendErrors(t *testing.T) {
	s, m := office.New()
	for i := range 24 {
		s, m = put(t, s, m, sized(i, 8028))
		if i == 11 {
			s = office.Sync(s)
		}
	}
	left := 200000 - 22 - 24*8028
	bad := sheet(at(0, 0), -1)
	for _, c := range []struct {
		x    api.Entry
		want api.Errno
	}{
		{bad, api.ErrEntry}, {with(sized(0, 8028), "b"), api.ErrTwo}, {sized(24, left+1), api.ErrFull}, {sized(24, left), api.OK}, {sized(3, 8028), api.OK},
	} {
		r, n, e := office.Append(s, m, c.x)
		if e != c.want || e != api.OK && !isZero(r, n) {
			t.Error(c.x.At, e)
		}
	}
	s, m = put(t, s, m, sized(24, left))
	if n := len(on(s.Files[0])); n != 200000 {
		t.Error(n)
	}
	for _, c := range []struct {
		x    api.Entry
		want api.Errno
	}{
		{sized(25, 28), api.ErrFull}, {with(sized(24, left), "b"), api.ErrTwo}, {with(sized(24, left), strings.Repeat("b", 8001)), api.ErrEntry}, {sized(24, left), api.OK},
	} {
		r, n, e := office.Append(s, m, c.x)
		if e != c.want || e != api.OK && !isZero(r, n) || e == api.OK && !sameShelves(r, s) {
			t.Error(c.x.At, e)
		}
	}
	if way, n, e := office.Pack(s, m); e != api.OK || len(on(way[len(way)-1].Files[1])) != 200000 || !sameBooks(n.Book, m.Book) {
		t.Error(e)
	}
	s, m = shelfOf(fileOf(1, long(200).Entries, slices.Repeat(long(1).Entries, 9000)), nil), api.Store{Book: long(200), Generation: 1}
	for _, c := range []struct {
		x    api.Entry
		want api.Errno
	}{
		{sheet(at(7, 0), 5), api.ErrLong}, {bad, api.ErrEntry}, {sheet(at(0, 0), 6), api.ErrTwo}, {sheet(at(0, 0), 0), api.OK},
	} {
		if _, _, e := office.Append(s, m, c.x); e != c.want {
			t.Error(c.x.At, e)
		}
	}
}

// P8.4: a file that is too long to be packed, and the last generation.
func TestPackErrors(t *testing.T) {
	var l []api.Entry
	for i := range 24 {
		l = append(l, sized(i, 8028))
	}
	left := 200000 - 22 - 24*8028
	for _, c := range []struct {
		b    []byte
		want api.Errno
	}{
		{fileOf(1, append(slices.Clone(l), sized(24, left)), nil), api.OK},
		{fileOf(1, append(slices.Clone(l), sized(24, left+1)), nil), api.ErrFull},
		{fileOf(1, nil, append(slices.Clone(l), sized(24, left+1))), api.ErrFull},
		{fileOf(1, l, l), api.OK}, // the other file has each entry once
		{fileOf(999999999, l, nil), api.OK},
		{fileOf(1000000000, l, nil), api.ErrFull},
		{fileOf(1000000000, nil, nil), api.ErrFull},
	} {
		s := shelfOf(c.b, nil)
		_, m, e := office.Open(s)
		if e != api.OK {
			t.Fatal(e)
		}
		way, n, e := office.Pack(s, m)
		if e != c.want || e != api.OK && (len(way) != 0 || !sameStores(n, api.Store{})) {
			t.Error(len(c.b), e)
		}
		if e == api.OK && !sameShelves(way[len(way)-1], shelfOf(nil, fileOf(m.Generation+1, m.Book.Entries, nil))) {
			t.Error(len(c.b))
		}
	}
	s := shelfOf(fileOf(1000000000, nil, nil), nil)
	if s, m := put(t, s, api.Store{Generation: 1000000000}, entryX); m.Generation != 1000000000 || len(s.Files[0].Loose) != 28 {
		t.Error(s, m)
	}
}

// content reads a file by itself: its generation, its entries and its end; the generation 0 if the file does not count.
func content(b []byte) (generation int, l []api.Entry, end int) {
	if len(b) < 14 || string(b[:6]) != "gyttja" || crc32.ChecksumIEEE(b[:10]) != binary.BigEndian.Uint32(b[10:]) {
		return 0, nil, 0
	}
	generation = int(binary.BigEndian.Uint32(b[6:]))
	sealed := false
	end = 14
	for len(b)-end >= 8 {
		size := int(binary.BigEndian.Uint32(b[end:]))
		if !sealed && bytes.HasPrefix(b[end:], seal) {
			sealed = true
			end += 8
			continue
		}
		if size > len(b)-end-8 {
			break
		}
		x, e := office.Decode(b[end+8 : end+8+size])
		if e != api.OK || !bytes.HasPrefix(b[end:], frames(x)) {
			break
		}
		l = append(l, x)
		end += 8 + size
	}
	if !sealed || generation < 1 || generation > 1000000000 {
		return 0, nil, 0
	}
	return generation, l, end
}

// openOf is what Open is to return, by content.
func openOf(s api.Shelf) (r api.Shelf, m api.Store, e api.Errno) {
	for i, f := range s.Files {
		generation, l, end := content(on(f))
		if generation <= m.Generation {
			continue
		}
		e, r = api.OK, api.Shelf{}
		r.Files[i].Firm = on(f)[:end]
		m = api.Store{File: i, Generation: generation}
		for _, x := range l {
			b, ok := union(m.Book, bookOf(x))
			if !ok {
				e = api.ErrDamaged
			}
			m.Book = b
		}
		if len(m.Book.Entries) > 200 {
			e = api.ErrDamaged
		}
	}
	if m.Generation == 0 || e != api.OK {
		return api.Shelf{}, api.Store{}, api.ErrDamaged
	}
	return r, m, api.OK
}

// someFile has parts of files, most in an order in which they count.
func someFile(d *rand.Rand, all []api.Entry) api.File {
	entries := func() []byte {
		l := shuffled(d, some(d, all))
		if d.IntN(8) == 0 && len(l) > 0 {
			l = append(l, l[d.IntN(len(l))])
		}
		if d.IntN(8) == 0 && len(l) > 0 {
			l = append(l, l[d.IntN(len(l))])
			l[len(l)-1].Reader ^= 1
		}
		return frames(l...)
	}
	parts := [][]byte{head([]int{0, 1, 2, 2, 3, 1000000000, 1000000001}[d.IntN(7)]), entries(), seal, entries()}
	if d.IntN(4) == 0 {
		parts = slices.Delete(parts, 1, 1+d.IntN(3))
	}
	if d.IntN(4) == 0 {
		parts = append(parts, seal[:d.IntN(9)], entries())
	}
	b := slices.Concat(parts...)
	if d.IntN(3) == 0 && len(b) > 0 {
		b[d.IntN(len(b))] ^= 1 << d.IntN(8)
	}
	if d.IntN(3) == 0 {
		b = b[:d.IntN(len(b)+1)]
	}
	firm := d.IntN(len(b) + 1)
	return api.File{Firm: b[:firm], Loose: b[firm:]}
}

// P8.4, P8.8: Open of any shelf, be it damaged; and of what it returned, once more.
func TestOpenAny(t *testing.T) {
	d := dice(10)
	outcomes := map[api.Errno]int{}
	for range 30000 {
		all := someEntries(d, 8)
		s := api.Shelf{Files: [2]api.File{someFile(d, all), someFile(d, all)}}
		r, m, e := office.Open(s)
		due, store, want := openOf(s)
		if e != want || !sameShelves(r, due) || !sameStores(m, store) {
			t.Fatal(s, r, m, e, due, store, want)
		}
		outcomes[e]++
		if e != api.OK {
			continue
		}
		if again, n, e := office.Open(r); e != api.OK || !sameShelves(again, r) || !sameStores(n, m) {
			t.Fatal(s, r, again, m, n, e)
		}
		x := someEntry(d, true)
		behind := len(on(s.Files[m.File])) > len(r.Files[m.File].Firm)
		q, n, e := office.Append(s, m, x)
		if behind != (e == api.ErrShelf) {
			t.Fatal(s, m, x, e)
		}
		if b, want := office.Add(m.Book, x); !behind && (e != want || !sameBooks(n.Book, b)) {
			t.Fatal(s, m, x, n, e, want)
		}
		if e != api.OK {
			continue
		}
		// What was appended is there when the shelf is opened, as it is.
		if _, k, e := office.Open(q); e != api.OK || !sameStores(k, n) {
			t.Fatal(s, m, x, k, n, e)
		}
	}
	if outcomes[api.OK] < 5000 || outcomes[api.ErrDamaged] < 2000 {
		t.Error(outcomes)
	}
}

// tape is a journal with what it must not lose: the entries that were there at the last Sync, Pack or Open, and those that were appended behind it.
type tape struct {
	s         api.Shelf
	m         api.Store
	old, late []api.Entry
}

func (j *tape) settle() { j.old, j.late = append(j.old, j.late...), nil }

// survives opens the shelf behind all kinds of crashes.
func (j *tape) survives(t *testing.T, d *rand.Rand) {
	t.Helper()
	loose := len(j.s.Files[j.m.File].Loose)
	keeps := []int{-1, 0, loose - 1, loose, loose + 1, d.IntN(loose + 1), d.IntN(loose + 1)}
	for i := range j.late {
		end := len(frames(j.late[:i+1]...))
		keeps = append(keeps, end-1, end, end+1)
	}
	for _, n := range keeps {
		kept := [2]int{n, n}
		kept[1-j.m.File] = d.IntN(100)
		whole := len(j.late)
		for whole > 0 && len(frames(j.late[:whole]...)) > n {
			whole--
		}
		_, m, e := office.Open(office.Crash(j.s, kept))
		want := bookOf(slices.Concat(j.old, j.late[:whole])...)
		if e != api.OK || !sameStores(m, api.Store{Book: want, File: j.m.File, Generation: j.m.Generation}) {
			t.Fatal(j, kept, m, e, want)
		}
	}
}

// P8.7: whatever is done to a journal, no crash takes what was firm, and what is left is a beginning; nor on the way of a Pack.
func TestPower(t *testing.T) {
	d := dice(11)
	for range 300 {
		var j tape
		j.s, j.m = office.New()
		for range 25 {
			switch d.IntN(9) {
			case 0:
				j.s = office.Sync(j.s)
				j.settle()
			case 1:
				j.pack(t, d)
			case 2:
				j.open(t, j.s)
			case 3:
				j.open(t, office.Crash(j.s, [2]int{d.IntN(60), d.IntN(60)}))
			default:
				j.append(t, someEntry(d, true))
			}
			j.survives(t, d)
		}
	}
}

func (j *tape) append(t *testing.T, x api.Entry) {
	t.Helper()
	s, m, e := office.Append(j.s, j.m, x)
	i := slices.IndexFunc(j.m.Book.Entries, func(y api.Entry) bool { return y.At == x.At })
	if i != -1 && j.m.Book.Entries[i] != x {
		if e != api.ErrTwo {
			t.Fatal(j, x, e)
		}
		return
	}
	if e != api.OK {
		t.Fatal(j, x, e)
	}
	j.s, j.m = s, m
	if i == -1 {
		j.late = append(j.late, x)
	}
	if !sameBooks(m.Book, bookOf(slices.Concat(j.old, j.late)...)) {
		t.Fatal(j, x, m)
	}
}

func (j *tape) open(t *testing.T, s api.Shelf) {
	t.Helper()
	r, m, e := office.Open(s)
	if e != api.OK {
		t.Fatal(j, e)
	}
	*j = tape{s: r, m: m, old: m.Book.Entries}
}

func (j *tape) pack(t *testing.T, d *rand.Rand) {
	t.Helper()
	way, m, e := office.Pack(j.s, j.m)
	if e != api.OK || !sameStores(m, api.Store{Book: j.m.Book, File: 1 - j.m.File, Generation: j.m.Generation + 1}) {
		t.Fatal(j, m, e)
	}
	for i, s := range way {
		for _, kept := range [][2]int{{-1, -1}, {0, 1000000}, {1000000, 0}, {1000000, 1000000}, {d.IntN(100), d.IntN(100)}, {d.IntN(9), d.IntN(9)}} {
			_, n, e := office.Open(office.Crash(s, kept))
			if e != api.OK || !sameBooks(n.Book, j.m.Book) {
				t.Fatal(j, i, kept, n, e)
			}
		}
	}
	j.s, j.m = way[len(way)-1], m
	j.settle()
}

// P8.4: a journal of which the file grows to its limit, entry by entry, is packed and opened.
func TestFullJournal(t *testing.T) {
	s, m := office.New()
	for i := range 200 {
		s, m = put(t, s, m, sized(i, 999))
	}
	if _, _, e := office.Append(s, m, sized(200, 28)); e != api.ErrLong {
		t.Error(e)
	}
	way, n, e := office.Pack(s, m)
	if e != api.OK || len(way) != 207 || len(on(way[206].Files[1])) != 22+200*999 {
		t.Fatal(len(way), e)
	}
	if _, k, e := office.Open(office.Crash(way[206], [2]int{})); e != api.OK || !sameStores(k, n) || len(k.Book.Entries) != 200 {
		t.Error(e)
	}
}

// P8.4, P8.8: Open of any bytes is as the oracle says.
func FuzzOpen(f *testing.F) {
	f.Add(fileOf(1, example().Entries, nil), fileOf(2, []api.Entry{entryX}, []api.Entry{entryY, entryX}))
	f.Add(slices.Concat(head(3), frames(entryX)), fileOf(2, nil, nil))
	f.Fuzz(func(t *testing.T, zero, one []byte) {
		s := shelfOf(zero, one)
		r, m, e := office.Open(s)
		if due, store, want := openOf(s); e != want || !sameShelves(r, due) || !sameStores(m, store) {
			t.Error(r, m, e, due, store, want)
		}
		if e != api.OK {
			return
		}
		if again, n, e := office.Open(r); e != api.OK || !sameShelves(again, r) || !sameStores(n, m) {
			t.Error(again, n, e)
		}
	})
}

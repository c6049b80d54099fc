package office

import "gyttja/api"

// Where the bytes of an entry have what.
const (
	atPlace  = 0
	atKind   = 5
	atHour   = 6
	atReader = 10
	atOf     = 11
	atSize   = 16
	atText   = 20
)

// Where a frame has what.
const (
	atSum  = 4
	atBody = 8
)

// putNumber writes the four bytes of a number, the most significant one first.
func putNumber(b []byte, n uint32) {
	for i := range 4 {
		b[i] = byte(n >> (24 - 8*i))
	}
}

func number(b []byte) uint32 {
	var n uint32
	for _, c := range b[:4] {
		n = n<<8 | uint32(c)
	}
	return n
}

func putPlace(b []byte, p api.Place) {
	b[0] = byte(p.Office)
	putNumber(b[1:], uint32(p.Seq))
}

func place(b []byte) api.Place {
	return api.Place{Office: int(b[0]), Seq: int(number(b[1:]))}
}

// Encode writes an entry as bytes.
func Encode(x api.Entry) ([]byte, api.Errno) {
	if e := CheckEntry(x); e != api.OK {
		return nil, e
	}
	b := make([]byte, atText+len(x.Text))
	putPlace(b[atPlace:], x.At)
	b[atKind] = byte(x.Kind)
	putNumber(b[atHour:], uint32(x.Hour))
	b[atReader] = byte(x.Reader)
	putPlace(b[atOf:], x.Of)
	putNumber(b[atSize:], uint32(len(x.Text)))
	copy(b[atText:], x.Text)
	return b, api.OK
}

// Decode reads an entry's bytes.
func Decode(b []byte) (api.Entry, api.Errno) {
	if !within(len(b), atText, atText+api.MaxBody) || int(number(b[atSize:])) != len(b)-atText {
		return api.Entry{}, api.ErrEntry
	}
	x := api.Entry{
		At:     place(b[atPlace:]),
		Kind:   int(b[atKind]),
		Hour:   int(number(b[atHour:])),
		Reader: int(b[atReader]),
		Of:     place(b[atOf:]),
		Text:   string(b[atText:]),
	}
	if e := CheckEntry(x); e != api.OK {
		return api.Entry{}, e
	}
	return x, api.OK
}

// Sum is the check sum of bytes.
func Sum(b []byte) uint32 {
	const polynomial = 0xEDB88320
	v := ^uint32(0)
	for _, c := range b {
		v ^= uint32(c)
		for range 8 {
			v = v>>1 ^ polynomial*(v&1)
		}
	}
	return ^v
}

// framed puts the number of bytes and their sum ahead of them.
func framed(b []byte) []byte {
	f := make([]byte, atBody+len(b))
	putNumber(f, uint32(len(b)))
	putNumber(f[atSum:], Sum(b))
	copy(f[atBody:], b)
	return f
}

// Frame writes an entry as a frame.
func Frame(x api.Entry) ([]byte, api.Errno) {
	b, e := Encode(x)
	if e != api.OK {
		return nil, e
	}
	return framed(b), api.OK
}

// whole reads the frame at the beginning of bytes, and tells how many of them it takes: 0, if it is not whole. How many bytes a frame may have is left to Decode.
func whole(b []byte) (x api.Entry, size int) {
	if len(b) < atBody {
		return api.Entry{}, 0
	}
	size = int(number(b))
	if !within(size, 0, len(b)-atBody) {
		return api.Entry{}, 0
	}
	size += atBody
	body := b[atBody:size]
	if Sum(body) != number(b[atSum:]) {
		return api.Entry{}, 0
	}
	x, e := Decode(body)
	if e != api.OK {
		return api.Entry{}, 0
	}
	return x, size
}

// Scan reads the frames of bytes, as far as they are whole.
func Scan(b []byte) ([]api.Entry, int) {
	var l []api.Entry
	end := 0
	for {
		x, size := whole(b[end:])
		if size == 0 {
			return l, end
		}
		l = append(l, x)
		end += size
	}
}

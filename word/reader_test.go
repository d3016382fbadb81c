package word

import (
	"bytes"
	"math"
	"testing"

	"bulkhead/api"
)

func wantReader(t *testing.T, what string, r *Reader, at, left int, why api.Errno) {
	t.Helper()
	if r.At() != at || r.Left() != left || r.Err() != why {
		t.Errorf("%s: At %d, Left %d, Err %d; not %d, %d, %d", what, r.At(), r.Left(), r.Err(), at, left, why)
	}
}

// zeroCalls are the calls that take; zero tells whether one answered zero.
var zeroCalls = []struct {
	name string
	zero func(r *Reader) bool
}{
	{"Byte", func(r *Reader) bool { return r.Byte() == 0 }},
	{"Half", func(r *Reader) bool { return r.Half() == 0 }},
	{"Word", func(r *Reader) bool { return r.Word() == 0 }},
	{"Long", func(r *Reader) bool { return r.Long() == 0 }},
	{"Bytes", func(r *Reader) bool { return len(r.Bytes(1)) == 0 }},
	{"no Bytes", func(r *Reader) bool { return len(r.Bytes(0)) == 0 }},
	{"wrong Bytes", func(r *Reader) bool { return len(r.Bytes(-1)) == 0 }},
	{"Text", func(r *Reader) bool { return r.Text(65535) == "" }},
	{"Pad", func(r *Reader) bool { r.Pad(4); return true }},
	{"wrong Pad", func(r *Reader) bool { r.Pad(0); return true }},
	{"Seal", func(r *Reader) bool { r.Seal(0); return true }},
	{"wrong Seal", func(r *Reader) bool { r.Seal(-1); return true }},
}

// P1.7: each call takes what it names, and no more.
func TestReaderTakes(t *testing.T) {
	b := []byte{1, 2, 3, 4, 5, 6, 7, 8, 9, 10, 11, 12, 13, 14, 15, 16, 17, 18, 2, 0, 'h', 'i'}
	r := NewReader(b)
	wantReader(t, "a new one", r, 0, 22, api.OK)
	if n := r.Byte(); n != 1 {
		t.Errorf("Byte: %d", n)
	}
	wantReader(t, "Byte", r, 1, 21, api.OK)
	if n := r.Half(); n != 0x0302 {
		t.Errorf("Half: %#x", n)
	}
	wantReader(t, "Half", r, 3, 19, api.OK)
	if n := r.Word(); n != 0x07060504 {
		t.Errorf("Word: %#x", n)
	}
	wantReader(t, "Word", r, 7, 15, api.OK)
	if n := r.Long(); n != 0x0F0E0D0C0B0A0908 {
		t.Errorf("Long: %#x", n)
	}
	wantReader(t, "Long", r, 15, 7, api.OK)
	if got := r.Bytes(3); !bytes.Equal(got, []byte{16, 17, 18}) {
		t.Errorf("Bytes: %v", got)
	}
	wantReader(t, "Bytes", r, 18, 4, api.OK)
	if got := r.Bytes(0); len(got) != 0 {
		t.Errorf("no Bytes: %v", got)
	}
	if r.End() != api.ErrTail {
		t.Errorf("End: %d", r.End())
	}
	wantReader(t, "End", r, 18, 4, api.OK)
	if s := r.Text(2); s != "hi" {
		t.Errorf("Text: %q", s)
	}
	wantReader(t, "Text", r, 22, 0, api.OK)
	if r.End() != api.OK || len(r.Bytes(0)) != 0 || r.End() != api.OK {
		t.Errorf("End: %d", r.End())
	}
}

// P1.7: each refusal, and which of two comes first.
func TestReaderRefuses(t *testing.T) {
	sealed := Put([]byte("123456789"), uint32(0xE3069283))
	for _, c := range []struct {
		name  string
		bytes []byte
		skip  int
		call  func(r *Reader)
		why   api.Errno
	}{
		{"Byte", nil, 0, func(r *Reader) { r.Byte() }, api.ErrShort},
		{"Half", []byte{1}, 0, func(r *Reader) { r.Half() }, api.ErrShort},
		{"Word", []byte{1, 2, 3}, 0, func(r *Reader) { r.Word() }, api.ErrShort},
		{"Word behind a byte", []byte{1, 2, 3, 4}, 1, func(r *Reader) { r.Word() }, api.ErrShort},
		{"Long", []byte{1, 2, 3, 4, 5, 6, 7}, 0, func(r *Reader) { r.Long() }, api.ErrShort},
		{"Bytes(-1)", []byte{1}, 0, func(r *Reader) { r.Bytes(-1) }, api.ErrArg},
		{"Bytes(-1) of none", nil, 0, func(r *Reader) { r.Bytes(-1) }, api.ErrArg},
		{"Bytes(least)", []byte{1}, 1, func(r *Reader) { r.Bytes(math.MinInt) }, api.ErrArg},
		{"Bytes, one too many", []byte{1, 2}, 1, func(r *Reader) { r.Bytes(2) }, api.ErrShort},
		{"Bytes(greatest)", []byte{1, 2}, 1, func(r *Reader) { r.Bytes(math.MaxInt) }, api.ErrShort},
		{"Text of none", nil, 0, func(r *Reader) { r.Text(9) }, api.ErrShort},
		{"Text of half a Half", []byte{9}, 0, func(r *Reader) { r.Text(0) }, api.ErrShort},
		{"Text of half a Half, most -1", []byte{9}, 0, func(r *Reader) { r.Text(-1) }, api.ErrShort},
		{"Text above most", []byte{2, 0, 65, 66}, 0, func(r *Reader) { r.Text(1) }, api.ErrLong},
		{"Text above most and short", []byte{2, 0, 65}, 0, func(r *Reader) { r.Text(1) }, api.ErrLong},
		{"Text short", []byte{2, 0, 65}, 0, func(r *Reader) { r.Text(9) }, api.ErrShort},
		{"Text short at most", []byte{2, 0, 65}, 0, func(r *Reader) { r.Text(2) }, api.ErrShort},
		{"Text greatest, short", []byte{255, 255, 1, 2}, 0, func(r *Reader) { r.Text(math.MaxInt) }, api.ErrShort},
		{"Text, the Half counts not", []byte{3, 0, 1, 2}, 0, func(r *Reader) { r.Text(9) }, api.ErrShort},
		{"Text of none, most below 0", []byte{0, 0}, 0, func(r *Reader) { r.Text(-1) }, api.ErrLong},
		{"Text, most the least", []byte{0, 0}, 0, func(r *Reader) { r.Text(math.MinInt) }, api.ErrLong},
		{"Pad(0)", []byte{1, 0}, 1, func(r *Reader) { r.Pad(0) }, api.ErrArg},
		{"Pad(-1)", nil, 0, func(r *Reader) { r.Pad(-1) }, api.ErrArg},
		{"Pad(least)", nil, 0, func(r *Reader) { r.Pad(math.MinInt) }, api.ErrArg},
		{"Pad above Page", nil, 0, func(r *Reader) { r.Pad(4097) }, api.ErrArg},
		{"Pad(greatest)", []byte{1}, 1, func(r *Reader) { r.Pad(math.MaxInt) }, api.ErrArg},
		{"Pad short", []byte{1, 0, 0}, 1, func(r *Reader) { r.Pad(4) }, api.ErrShort},
		{"Pad short and wrong", []byte{1, 7, 0}, 1, func(r *Reader) { r.Pad(4) }, api.ErrShort},
		{"Pad wrong at first", []byte{1, 7, 0, 0, 0}, 1, func(r *Reader) { r.Pad(4) }, api.ErrForm},
		{"Pad wrong at last", []byte{1, 0, 0, 128, 0}, 1, func(r *Reader) { r.Pad(4) }, api.ErrForm},
		{"Seal(-1)", sealed, 9, func(r *Reader) { r.Seal(-1) }, api.ErrArg},
		{"Seal(-1), short", []byte{1}, 1, func(r *Reader) { r.Seal(-1) }, api.ErrArg},
		{"Seal(least)", sealed, 9, func(r *Reader) { r.Seal(math.MinInt) }, api.ErrArg},
		{"Seal above At", sealed, 9, func(r *Reader) { r.Seal(10) }, api.ErrArg},
		{"Seal above At, short", sealed, 13, func(r *Reader) { r.Seal(14) }, api.ErrArg},
		{"Seal(greatest)", sealed, 9, func(r *Reader) { r.Seal(math.MaxInt) }, api.ErrArg},
		{"Seal short", sealed[:12], 9, func(r *Reader) { r.Seal(0) }, api.ErrShort},
		{"Seal from another byte", sealed, 9, func(r *Reader) { r.Seal(1) }, api.ErrSum},
		{"Seal at another byte", sealed, 8, func(r *Reader) { r.Seal(0) }, api.ErrSum},
	} {
		r := NewReader(c.bytes)
		r.Bytes(c.skip)
		c.call(r)
		wantReader(t, c.name, r, c.skip, len(c.bytes)-c.skip, c.why)
		if r.End() != c.why {
			t.Errorf("%s: End %d, not %d", c.name, r.End(), c.why)
		}
	}
}

// P1.7: a refused call answers zero. P1.8: so does each one behind it, and At stays.
func TestReaderBehindRefusal(t *testing.T) {
	for _, first := range zeroCalls {
		r := NewReader(nil)
		if !first.zero(r) {
			t.Errorf("%s of no bytes: not zero", first.name)
		}
	}
	short := NewReader([]byte{9})
	if n := short.Half(); n != 0 {
		t.Errorf("Half of one byte: %d", n)
	}
	short = NewReader([]byte{9, 9, 9})
	if n := short.Word(); n != 0 {
		t.Errorf("Word of three bytes: %d", n)
	}
	short = NewReader([]byte{9, 9, 9, 9, 9, 9, 9})
	if n := short.Long(); n != 0 {
		t.Errorf("Long of seven bytes: %d", n)
	}
	refusals := []struct {
		why    api.Errno
		refuse func(r *Reader) bool
	}{
		{api.ErrArg, func(r *Reader) bool { return len(r.Bytes(-1)) == 0 }},
		{api.ErrShort, func(r *Reader) bool { return len(r.Bytes(99)) == 0 }},
		{api.ErrLong, func(r *Reader) bool { return r.Text(1) == "" }},
		{api.ErrForm, func(r *Reader) bool { r.Pad(8); return true }},
		{api.ErrSum, func(r *Reader) bool { r.Seal(0); return true }},
	}
	for _, c := range refusals {
		r := NewReader([]byte{9, 2, 0, 65, 66, 1, 1, 1, 1, 1, 1, 1})
		r.Byte()
		if !c.refuse(r) {
			t.Errorf("a refusal %d that answers more than zero", c.why)
		}
		wantReader(t, "the refusal", r, 1, 11, c.why)
		for _, next := range zeroCalls {
			if !next.zero(r) {
				t.Errorf("%s behind refusal %d: not zero", next.name, c.why)
			}
			wantReader(t, next.name, r, 1, 11, c.why)
		}
		if r.End() != c.why {
			t.Errorf("End behind refusal %d: %d", c.why, r.End())
		}
	}
}

// P1.7: Pad counts from the first byte of all, not from where the Reader is.
func TestReaderPad(t *testing.T) {
	for _, align := range []int{1, 2, 3, 8, 4095, 4096} {
		for _, n := range []int{0, 1, 2, 3, 7, 8, 9, 4095, 4096, 4097} {
			end := (n + align - 1) / align * align
			r := NewReader(make([]byte, end+1))
			r.Bytes(n)
			r.Pad(align)
			wantReader(t, "Pad", r, end, 1, api.OK)
		}
	}
	r := NewReader([]byte{1, 2, 3, 4})
	r.Bytes(2)
	r.Pad(2)
	wantReader(t, "Pad of nothing", r, 2, 2, api.OK)
}

// P1.7: Seal looks at the bytes from `from` up to At.
func TestReaderSeal(t *testing.T) {
	body := []byte("some bytes")
	for from := range len(body) + 1 {
		r := NewReader(Put(body, CRC(body[from:])))
		r.Bytes(len(body))
		r.Seal(from)
		wantReader(t, "Seal", r, len(body)+4, 0, api.OK)
	}
}

// P1.8: End tells bytes that are left, one as well as many, and changes nothing.
func TestReaderEnd(t *testing.T) {
	for n := range 4 {
		r := NewReader(make([]byte, n))
		for left := n; left > 0; left-- {
			if r.End() != api.ErrTail || r.Left() != left {
				t.Errorf("End with %d left: %d", r.Left(), r.End())
			}
			r.Byte()
		}
		if r.End() != api.OK || r.Err() != api.OK {
			t.Errorf("End behind %d bytes: %d", n, r.End())
		}
		r.Byte()
		wantReader(t, "one more", r, n, 0, api.ErrShort)
		if r.End() != api.ErrShort {
			t.Errorf("End behind a refusal: %d", r.End())
		}
	}
}

// P1.7: a Reader has a copy, and its answers are new memory (R2).
func TestReaderMemory(t *testing.T) {
	b := []byte{1, 2, 3, 4, 5}
	r := NewReader(b[:4])
	b[0], b[1] = 9, 9
	first := r.Bytes(2)
	if !bytes.Equal(first, []byte{1, 2}) {
		t.Errorf("a Reader kept what it was given: %v", first)
	}
	whole := first[:cap(first)]
	for i := range whole {
		whole[i] = 7
	}
	_ = append(first, 7, 7)
	if got := r.Bytes(2); !bytes.Equal(got, []byte{3, 4}) {
		t.Errorf("an answer of Bytes shares memory: %v", got)
	}
	if !bytes.Equal(b, []byte{9, 9, 3, 4, 5}) {
		t.Errorf("a Reader changed what it was given: %v", b)
	}
}

func TestReaderRuns(t *testing.T) {
	w := NewWriter()
	w.Word(5)
	w.Pad(8)
	w.Seal(0)
	all := w.All()
	if len(all) != 12 {
		t.Fatalf("%d bytes", len(all))
	}
	r := NewReader(all)
	n := r.Word()
	r.Pad(8)
	r.Seal(0)
	if n != 5 || r.End() != api.OK {
		t.Errorf("read back: %d, End %d", n, r.End())
	}
	for bit := range 8 * len(all) {
		turned := bytes.Clone(all)
		turned[bit/8] ^= 1 << (bit % 8)
		r := NewReader(turned)
		r.Word()
		r.Pad(8)
		r.Seal(0)
		want := api.ErrSum
		if bit/8 >= 4 && bit/8 < 8 {
			want = api.ErrForm
		}
		if r.Err() != want || r.End() != want {
			t.Errorf("bit %d turned: %d", bit, r.Err())
		}
	}
	r = NewReader([]byte{2, 0, 65})
	if s := r.Text(9); s != "" {
		t.Errorf("Text: %q", s)
	}
	wantReader(t, "Text(9)", r, 0, 3, api.ErrShort)
	r = NewReader([]byte{2, 0, 65})
	if s := r.Text(1); s != "" || r.Err() != api.ErrLong {
		t.Errorf("Text(1): %q %d", s, r.Err())
	}
}

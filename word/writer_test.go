package word

import (
	"bytes"
	"math"
	"strings"
	"testing"

	"bulkhead/api"
)

func wantWriter(t *testing.T, w *Writer, all []byte, why api.Errno) {
	t.Helper()
	if got := w.All(); !bytes.Equal(got, all) || w.Len() != len(all) || w.Err() != why {
		t.Errorf("%v, Len %d, Err %d; not %v, Err %d", got, w.Len(), w.Err(), all, why)
	}
}

// P1.5: each call alone, and that a Writer begins empty.
func TestWriterCalls(t *testing.T) {
	for _, c := range []struct {
		name string
		call func(w *Writer)
		want []byte
	}{
		{"nothing", func(w *Writer) {}, nil},
		{"Byte", func(w *Writer) { w.Byte(0xFE) }, []byte{0xFE}},
		{"Half", func(w *Writer) { w.Half(0x1234) }, []byte{0x34, 0x12}},
		{"Word", func(w *Writer) { w.Word(0x12345678) }, []byte{0x78, 0x56, 0x34, 0x12}},
		{"Long", func(w *Writer) { w.Long(0x0102030405060708) }, []byte{8, 7, 6, 5, 4, 3, 2, 1}},
		{"Bytes", func(w *Writer) { w.Bytes([]byte{3, 2, 1}) }, []byte{3, 2, 1}},
		{"no Bytes", func(w *Writer) { w.Bytes(nil) }, nil},
		{"Text", func(w *Writer) { w.Text("ab\x00\xff") }, []byte{4, 0, 'a', 'b', 0, 255}},
		{"no Text", func(w *Writer) { w.Text("") }, []byte{0, 0}},
		{"Pad of nothing", func(w *Writer) { w.Pad(8) }, nil},
		{"Seal of nothing", func(w *Writer) { w.Seal(0) }, []byte{0, 0, 0, 0}},
	} {
		w := NewWriter()
		c.call(w)
		if !bytes.Equal(w.All(), c.want) || w.Len() != len(c.want) || w.Err() != api.OK {
			t.Errorf("%s: %v, Len %d, Err %d", c.name, w.All(), w.Len(), w.Err())
		}
	}
}

// P1.5: the length of a text is a Half, up to its greatest.
func TestWriterText(t *testing.T) {
	for _, n := range []int{255, 256, 65534, 65535} {
		w := NewWriter()
		w.Byte(1)
		w.Text(strings.Repeat("x", n))
		want := append([]byte{1, byte(n), byte(n >> 8)}, bytes.Repeat([]byte("x"), n)...)
		if !bytes.Equal(w.All(), want) || w.Err() != api.OK {
			t.Errorf("Text of %d bytes: Len %d, Err %d", n, w.Len(), w.Err())
		}
	}
	for _, n := range []int{65536, 65537, 131072} {
		w := NewWriter()
		w.Byte(1)
		w.Text(strings.Repeat("x", n))
		wantWriter(t, w, []byte{1}, api.ErrLong)
	}
}

// P1.5: Pad from each place, to each kind of multiple.
func TestWriterPad(t *testing.T) {
	for _, align := range []int{1, 2, 3, 7, 8, 4095, 4096} {
		for _, n := range []int{0, 1, 2, 3, 7, 8, 9, 4094, 4095, 4096, 4097, 8192} {
			w := NewWriter()
			body := bytes.Repeat([]byte{5}, n)
			w.Bytes(body)
			w.Pad(align)
			want := bytes.Clone(body)
			for len(want)%align != 0 {
				want = append(want, 0)
			}
			if !bytes.Equal(w.All(), want) || w.Err() != api.OK {
				t.Errorf("Pad(%d) behind %d bytes: Len %d, Err %d", align, n, w.Len(), w.Err())
			}
		}
	}
	for _, align := range []int{math.MinInt, -8, -1, 0, 4097, 8192, math.MaxInt} {
		w := NewWriter()
		w.Byte(1)
		w.Pad(align)
		wantWriter(t, w, []byte{1}, api.ErrArg)
	}
}

// P1.5: Seal from each byte, the first and the end among them.
func TestWriterSeal(t *testing.T) {
	body := []byte("123456789")
	for from := range len(body) + 1 {
		w := NewWriter()
		w.Bytes(body)
		w.Seal(from)
		wantWriter(t, w, Put(body, CRC(body[from:])), api.OK)
	}
	for _, from := range []int{math.MinInt, -1, len(body) + 1, math.MaxInt} {
		w := NewWriter()
		w.Bytes(body)
		w.Seal(from)
		wantWriter(t, w, body, api.ErrArg)
	}
}

// P1.6: behind the first refusal nothing is appended, and it stays the one that is told.
func TestWriterBehindRefusal(t *testing.T) {
	for _, c := range []struct {
		why    api.Errno
		refuse func(w *Writer)
	}{
		{api.ErrArg, func(w *Writer) { w.Pad(0) }},
		{api.ErrArg, func(w *Writer) { w.Seal(3) }},
		{api.ErrLong, func(w *Writer) { w.Text(strings.Repeat("x", 65536)) }},
	} {
		w := NewWriter()
		w.Half(0x0201)
		c.refuse(w)
		wantWriter(t, w, []byte{1, 2}, c.why)
		for _, call := range []func(){
			func() { w.Byte(1) }, func() { w.Half(1) }, func() { w.Word(1) }, func() { w.Long(1) },
			func() { w.Bytes([]byte{1}) }, func() { w.Text("a") }, func() { w.Pad(4) }, func() { w.Seal(0) },
			func() { w.Pad(0) }, func() { w.Seal(-1) }, func() { w.Text(strings.Repeat("x", 65536)) },
		} {
			call()
			wantWriter(t, w, []byte{1, 2}, c.why)
		}
	}
}

// R2: All is new memory each time, and Bytes keeps nothing of what it is given.
func TestWriterMemory(t *testing.T) {
	room := []byte{1, 2, 0xEE, 0xEE}
	w := NewWriter()
	w.Bytes(room[:2])
	w.Half(0)
	if !bytes.Equal(room, []byte{1, 2, 0xEE, 0xEE}) {
		t.Errorf("Bytes wrote into what it was given: %v", room)
	}
	room[0] = 9
	first, second := w.All(), w.All()
	whole := first[:cap(first)]
	for i := range whole {
		whole[i] = 7
	}
	_ = append(first, 7, 7, 7, 7)
	if want := []byte{1, 2, 0, 0}; !bytes.Equal(second, want) || !bytes.Equal(w.All(), want) {
		t.Errorf("All shares memory: %v %v", second, w.All())
	}
	w.Byte(3)
	if len(second) != 4 || !bytes.Equal(w.All(), []byte{1, 2, 0, 0, 3}) {
		t.Errorf("a Writer goes on behind All: %v %v", second, w.All())
	}
}

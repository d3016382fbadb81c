package word

import (
	"bytes"
	"testing"

	"bulkhead/api"
)

// Things that are written down and read back.
const (
	aByte = iota
	aHalf
	aWord
	aLong
	someBytes
	aText
	aPad
	aSeal
	kinds
)

// thing is one call: its kind, and what it is given.
type thing struct {
	kind   int
	number uint64
	bytes  []byte
	arg    int
}

func (d *dice) thing(length int) thing {
	x := thing{kind: d.below(kinds), number: d.next()<<32 ^ d.next()}
	switch x.kind {
	case someBytes, aText:
		x.bytes = d.bytes(d.below(20))
		if d.below(40) == 0 {
			x.bytes = d.bytes(65535 - d.below(2))
		}
	case aPad:
		x.arg = 1 + d.below(16)
		if d.below(10) == 0 {
			x.arg = api.Page - d.below(2)
		}
	case aSeal:
		x.arg = d.below(length + 1)
	}
	return x
}

func (x thing) write(w *Writer) {
	switch x.kind {
	case aByte:
		w.Byte(uint8(x.number))
	case aHalf:
		w.Half(uint16(x.number))
	case aWord:
		w.Word(uint32(x.number))
	case aLong:
		w.Long(x.number)
	case someBytes:
		w.Bytes(x.bytes)
	case aText:
		w.Text(string(x.bytes))
	case aPad:
		w.Pad(x.arg)
	case aSeal:
		w.Seal(x.arg)
	}
}

// same takes the thing and tells whether it came back.
func (x thing) same(r *Reader, spare int) bool {
	switch x.kind {
	case aByte:
		return r.Byte() == uint8(x.number)
	case aHalf:
		return r.Half() == uint16(x.number)
	case aWord:
		return r.Word() == uint32(x.number)
	case aLong:
		return r.Long() == x.number
	case someBytes:
		return bytes.Equal(r.Bytes(len(x.bytes)), x.bytes)
	case aText:
		return r.Text(len(x.bytes)+spare) == string(x.bytes)
	case aPad:
		r.Pad(x.arg)
	case aSeal:
		r.Seal(x.arg)
	}
	return true
}

// P1.9: rows of calls of all kinds.
func TestThereAndBack(t *testing.T) {
	d := &dice{state: 9}
	for round := range 500 {
		w := NewWriter()
		var things []thing
		var ends []int
		for range d.below(30) {
			x := d.thing(w.Len())
			x.write(w)
			things, ends = append(things, x), append(ends, w.Len())
		}
		if w.Err() != api.OK {
			t.Fatalf("round %d: the Writer refuses: %d", round, w.Err())
		}
		r := NewReader(w.All())
		for i, x := range things {
			if !x.same(r, i%3) || r.Err() != api.OK || r.At() != ends[i] {
				t.Fatalf("round %d: thing %d of kind %d: Err %d, At %d, not %d", round, i, x.kind, r.Err(), r.At(), ends[i])
			}
		}
		if r.End() != api.OK || r.Left() != 0 {
			t.Fatalf("round %d: End %d, Left %d", round, r.End(), r.Left())
		}
	}
}

// turn turns the bits of a pattern from a bit on; it tells whether all of them lay in b.
func turn(b []byte, from int, pattern uint32) bool {
	for i := range 32 {
		if pattern>>i&1 == 0 {
			continue
		}
		bit := from + i
		if bit >= 8*len(b) {
			return false
		}
		b[bit/8] ^= 1 << (bit % 8)
	}
	return true
}

func wantBurstTold(t *testing.T, sealed []byte, from int, pattern uint32) {
	t.Helper()
	b := bytes.Clone(sealed)
	if !turn(b, from, pattern) {
		return
	}
	r := NewReader(b)
	r.Bytes(len(b) - 4)
	r.Seal(0)
	if r.Err() != api.ErrSum || r.At() != len(b)-4 || r.Left() != 4 {
		t.Fatalf("%d bytes, burst %#x at bit %d: Err %d, At %d", len(b), pattern, from, r.Err(), r.At())
	}
}

// P1.10: bursts everywhere, in the seal itself and across its edge too.
func TestOneBurstIsTold(t *testing.T) {
	d := &dice{state: 10}
	for _, n := range []int{0, 1, 2, 3, 4, 5, 8, 37} {
		w := NewWriter()
		w.Bytes(d.bytes(n))
		w.Seal(0)
		sealed := w.All()
		for from := range 8 * len(sealed) {
			for pattern := uint32(1); pattern < 256; pattern += 2 {
				wantBurstTold(t, sealed, from, pattern)
			}
			for length := 9; length <= 32; length++ {
				ends := uint32(1) | uint32(1)<<(length-1)
				within := uint32(1)<<(length-1) - 1
				wantBurstTold(t, sealed, from, ends)
				wantBurstTold(t, sealed, from, ends|within)
				for range 4 {
					wantBurstTold(t, sealed, from, ends|uint32(d.next())&within)
				}
			}
			wantBurstTold(t, sealed, from, 0x82F63B78)
			wantBurstTold(t, sealed, from, 0x05EC76F1)
		}
	}
}

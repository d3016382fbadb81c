package word

import "bulkhead/api"

// Reader takes what a Writer laid down.
type Reader struct {
	bytes []byte
	at    int
	why   api.Errno
}

// NewReader begins at the first byte.
func NewReader(b []byte) *Reader { return &Reader{bytes: clone(b)} }

// rest is what is not taken yet.
func (r *Reader) rest() []byte { return r.bytes[r.at:] }

// take takes a number.
func take[N Number](r *Reader) N {
	if r.why != api.OK {
		return 0
	}
	n, ok := Get[N](r.rest())
	if !ok {
		r.why = api.ErrShort
		return 0
	}
	r.at += size[N]()
	return n
}

// Byte takes one byte.
func (r *Reader) Byte() uint8 { return take[uint8](r) }

// Half takes two bytes.
func (r *Reader) Half() uint16 { return take[uint16](r) }

// Word takes four bytes.
func (r *Reader) Word() uint32 { return take[uint32](r) }

// Long takes eight bytes.
func (r *Reader) Long() uint64 { return take[uint64](r) }

// Bytes takes n bytes.
func (r *Reader) Bytes(n int) []byte {
	switch {
	case r.why != api.OK:
		return nil
	case n < 0:
		r.why = api.ErrArg
		return nil
	case n > r.Left():
		r.why = api.ErrShort
		return nil
	}
	b := clone(r.rest()[:n])
	r.at += n
	return b
}

// Text takes a text of at most so many bytes.
func (r *Reader) Text(most int) string {
	if r.why != api.OK {
		return ""
	}
	half, ok := Get[uint16](r.rest())
	n, begin := int(half), size[uint16]()
	switch {
	case !ok:
		r.why = api.ErrShort
		return ""
	case n > most:
		r.why = api.ErrLong
		return ""
	case n > r.Left()-begin:
		r.why = api.ErrShort
		return ""
	}
	s := string(r.rest()[begin : begin+n])
	r.at += begin + n
	return s
}

// Pad takes zeros up to a multiple of align.
func (r *Reader) Pad(align int) {
	if r.why != api.OK {
		return
	}
	if !isAlign(align) {
		r.why = api.ErrArg
		return
	}
	n := gap(r.at, align)
	switch {
	case n > r.Left():
		r.why = api.ErrShort
	case !areZeros(r.rest()[:n]):
		r.why = api.ErrForm
	default:
		r.at += n
	}
}

// Seal takes the check sum of what stands from a byte on.
func (r *Reader) Seal(from int) {
	if r.why != api.OK {
		return
	}
	if from < 0 || from > r.at {
		r.why = api.ErrArg
		return
	}
	sum, ok := Get[uint32](r.rest())
	switch {
	case !ok:
		r.why = api.ErrShort
	case sum != CRC(r.bytes[from:r.at]):
		r.why = api.ErrSum
	default:
		r.at += size[uint32]()
	}
}

// At is the number of the next byte, or of the refused one.
func (r *Reader) At() int { return r.at }

// Left is how many bytes are left.
func (r *Reader) Left() int { return len(r.bytes) - r.at }

// Err tells the first refusal.
func (r *Reader) Err() api.Errno { return r.why }

// End tells Err, or whether bytes are left.
func (r *Reader) End() api.Errno {
	if r.why == api.OK && r.Left() > 0 {
		return api.ErrTail
	}
	return r.why
}

// areZeros tells whether each of the bytes is 0.
func areZeros(b []byte) bool {
	for _, x := range b {
		if x != 0 {
			return false
		}
	}
	return true
}

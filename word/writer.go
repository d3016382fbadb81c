package word

import "bulkhead/api"

// mostText is the greatest length that the Half ahead of a text can tell.
const mostText = 65535

// Writer lays bytes down, one behind the other.
type Writer struct {
	bytes []byte
	why   api.Errno
}

// NewWriter begins with no bytes.
func NewWriter() *Writer { return &Writer{} }

// lay appends a number, unless the Writer has refused something.
func lay[N Number](w *Writer, n N) {
	if w.why == api.OK {
		w.bytes = extend(w.bytes, n)
	}
}

// Byte appends one byte.
func (w *Writer) Byte(n uint8) { lay(w, n) }

// Half appends two bytes.
func (w *Writer) Half(n uint16) { lay(w, n) }

// Word appends four bytes.
func (w *Writer) Word(n uint32) { lay(w, n) }

// Long appends eight bytes.
func (w *Writer) Long(n uint64) { lay(w, n) }

// Bytes appends bytes.
func (w *Writer) Bytes(b []byte) {
	if w.why == api.OK {
		w.bytes = append(w.bytes, b...)
	}
}

// Text appends a text behind its length.
func (w *Writer) Text(s string) {
	switch {
	case w.why != api.OK:
	case len(s) > mostText:
		w.why = api.ErrLong
	default:
		w.bytes = append(extend(w.bytes, uint16(len(s))), s...)
	}
}

// Pad appends zeros up to a multiple of align.
func (w *Writer) Pad(align int) {
	switch {
	case w.why != api.OK:
	case !isAlign(align):
		w.why = api.ErrArg
	default:
		w.bytes = append(w.bytes, make([]byte, gap(w.Len(), align))...)
	}
}

// Seal appends the check sum of what stands from a byte on.
func (w *Writer) Seal(from int) {
	switch {
	case w.why != api.OK:
	case from < 0 || from > w.Len():
		w.why = api.ErrArg
	default:
		w.Word(CRC(w.bytes[from:]))
	}
}

// Len is how many bytes there are.
func (w *Writer) Len() int { return len(w.bytes) }

// All tells the bytes.
func (w *Writer) All() []byte { return clone(w.bytes) }

// Err tells the first refusal.
func (w *Writer) Err() api.Errno { return w.why }

// isAlign tells whether Pad takes it.
func isAlign(align int) bool { return align >= 1 && align <= api.Page }

// gap tells how many bytes are missing from at up to a multiple of align.
func gap(at, align int) int { return (align - at%align) % align }

// clone answers the bytes in memory of their own, without spare room.
func clone(b []byte) []byte {
	own := make([]byte, len(b))
	copy(own, b)
	return own
}

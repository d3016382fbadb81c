package word

import (
	"bytes"
	"testing"
)

// slowMore is the chapter's definition, word for word.
func slowMore(sum uint32, b []byte) uint32 {
	register := ^sum
	for _, x := range b {
		register ^= uint32(x)
		for range 8 {
			out := register & 1
			register >>= 1
			if out == 1 {
				register ^= 0x82F63B78
			}
		}
	}
	return ^register
}

// dice is a row of numbers that looks as if thrown, and is the same in each run.
type dice struct{ state uint64 }

func (d *dice) next() uint64 {
	d.state = d.state*6364136223846793005 + 1442695040888963407
	return d.state>>33 ^ d.state<<31
}

func (d *dice) below(n int) int { return int(d.next() % uint64(n)) }

func (d *dice) bytes(n int) []byte {
	out := make([]byte, n)
	for i := range out {
		out[i] = byte(d.next() >> 7)
	}
	return out
}

// P1.4: the values that the chapter names.
func TestCRCRuns(t *testing.T) {
	for _, c := range []struct {
		bytes []byte
		want  uint32
	}{{nil, 0}, {[]byte{}, 0}, {[]byte("123456789"), 0xE3069283}, {[]byte{0}, 0x527D5351}} {
		if got := CRC(c.bytes); got != c.want {
			t.Errorf("CRC(%v): %#x, not %#x", c.bytes, got, c.want)
		}
	}
}

// P1.4: the definition, of each byte and of longer rows.
func TestCRCIsTheDefinition(t *testing.T) {
	for x := range 256 {
		if b := []byte{byte(x)}; CRC(b) != slowMore(0, b) {
			t.Errorf("CRC(%v): %#x", b, CRC(b))
		}
	}
	d := &dice{state: 4}
	for n := range 300 {
		b := d.bytes(n)
		was := bytes.Clone(b)
		if CRC(b) != slowMore(0, b) {
			t.Errorf("CRC of %d bytes: %#x", n, CRC(b))
		}
		if !bytes.Equal(b, was) {
			t.Errorf("R2: CRC changed what it was given")
		}
	}
}

// P1.4: More goes on from where a sum ended, and from any other number.
func TestMore(t *testing.T) {
	d := &dice{state: 5}
	b := d.bytes(100)
	for cut := range len(b) + 1 {
		if More(CRC(b[:cut]), b[cut:]) != CRC(b) {
			t.Errorf("More behind %d bytes", cut)
		}
	}
	for _, sum := range []uint32{0, 1, 15, 16, 0x7FFFFFFF, 0x80000000, 0x82F63B78, 0xE3069283, 0xFFFFFFFE, 0xFFFFFFFF} {
		if More(sum, nil) != sum {
			t.Errorf("More(%#x) of no bytes: %#x", sum, More(sum, nil))
		}
		if More(sum, b) != slowMore(sum, b) {
			t.Errorf("More(%#x): %#x", sum, More(sum, b))
		}
	}
}

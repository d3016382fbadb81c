package scan

import (
	"math"
	"strconv"
)

// integer reads an integer, of which a digit is known to stand here.
func (c *cutter) integer() (uint64, bool) {
	n, base, times, fits := uint64(0), uint64(10), uint64(1), true
	if c.stands("0x") {
		base = 16
		c.at += 2
		if value(c.ahead()) >= base {
			goto wrong
		}
	}
digits:
	if value(c.ahead()) >= base {
		goto suffix
	}
	n, fits = more(n, base, value(c.ahead()))
	if !fits {
		goto wrong
	}
	c.at++
	goto digits
suffix:
	times = unit(c.ahead())
	if times == 1 {
		goto end
	}
	n, fits = more(n, times, 0)
	if !fits {
		goto wrong
	}
	c.at++
end:
	if isWord(c.ahead()) {
		goto wrong
	}
	return n, true
wrong:
	return 0, false
}

// value tells what a digit counts; a byte that is none counts more than any.
func value(b byte) uint64 {
	switch {
	case '0' <= b && b <= '9':
		return uint64(b - '0')
	case 'a' <= b && b <= 'f':
		return uint64(b-'a') + 10
	case 'A' <= b && b <= 'F':
		return uint64(b-'A') + 10
	}
	return 16
}

// unit tells by how much a K or an M multiplies; any other byte: by 1.
func unit(b byte) uint64 {
	times := uint64(1)
	switch b {
	case 'M':
		times *= 1 << 10
		fallthrough
	case 'K':
		times *= 1 << 10
	}
	return times
}

// more is n * times + plus, if it fits.
func more(n, times, plus uint64) (uint64, bool) {
	if n > (math.MaxUint64-plus)/times {
		return 0, false
	}
	return n*times + plus, true
}

// Number spells a number.
func Number(n uint64) []byte { return strconv.AppendUint(nil, n, 10) }

package console

import (
	"math"
	"strings"
)

// row is a line's words that have not been taken yet. Whoever takes them asks
// only at the end whether one of them was wrong.
type row struct {
	words []string
	wrong bool
}

func (r *row) word() string {
	if len(r.words) == 0 {
		r.wrong = true
		return ""
	}
	next := r.words[0]
	r.words = r.words[1:]
	return next
}

// name takes a name, and is its number.
func (r *row) name(known register) int {
	n, ok := known[r.word()]
	r.wrong = r.wrong || !ok
	return n
}

func (r *row) number() uint64 {
	n, ok := number(r.word())
	r.wrong = r.wrong || !ok
	return n
}

func (r *row) width() int {
	n := r.number()
	if n > math.MaxInt32 {
		r.wrong = true
		return 0
	}
	return int(n)
}

// right tells whether the words were those that were asked for, and no more.
func (r *row) right() bool { return !r.wrong && len(r.words) == 0 }

// number reads a number, decimal or hexadecimal.
func number(word string) (uint64, bool) {
	digits, base := word, uint64(10)
	if rest, ok := strings.CutPrefix(word, "0x"); ok {
		digits, base = rest, 16
	}
	// Zeros ahead count, where it is hexadecimal.
	if digits == "" || base == 16 && len(digits) > 16 {
		return 0, false
	}
	var n uint64
	for _, r := range digits {
		d := digit(r)
		if d >= base || n > (math.MaxUint64-d)/base {
			return 0, false
		}
		n = n*base + d
	}
	return n, true
}

// digit tells what a digit counts; a rune that is none counts more than any.
func digit(r rune) uint64 {
	switch {
	case '0' <= r && r <= '9':
		return uint64(r - '0')
	case 'a' <= r && r <= 'f':
		return uint64(r-'a') + 10
	}
	return 16
}

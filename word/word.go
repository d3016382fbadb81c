// Package word lays numbers down as bytes and reads them back: see doc/01-word.md.
package word

import "math/bits"

// Number is a kind of number that has 1, 2, 4 or 8 bytes.
type Number interface {
	~uint8 | ~uint16 | ~uint32 | ~uint64
}

// size tells how many bytes a number of the type has.
func size[N Number]() int {
	n := 0
	for rest := uint64(greatest[N]()); rest != 0; rest >>= 8 {
		n++
	}
	return n
}

// greatest tells the greatest number of the type.
func greatest[N Number]() N { return ^N(0) }

// extend appends a number in place, where Put may not: a Writer owns its
// bytes, and a copy of them at each number would cost quadratic time.
func extend[N Number](b []byte, n N) []byte {
	rest := uint64(n)
	for range size[N]() {
		b = append(b, byte(rest))
		rest >>= 8
	}
	return b
}

// Put appends a number, the lowest byte first.
func Put[N Number](b []byte, n N) []byte {
	own := make([]byte, len(b), len(b)+size[N]())
	copy(own, b)
	return extend(own, n)
}

// Get tells the number that the first bytes are.
func Get[N Number](b []byte) (N, bool) {
	n := size[N]()
	if len(b) < n {
		return 0, false
	}
	var sum uint64
	for i := n - 1; i >= 0; i-- {
		sum = sum<<8 | uint64(b[i])
	}
	return N(sum), true
}

// To tells the same number in another type.
func To[N, M Number](m M) (N, bool) {
	if uint64(m) > uint64(greatest[N]()) {
		return 0, false
	}
	return N(m), true
}

// Add tells a + b.
func Add[N Number](a, b N) (N, bool) {
	if b > greatest[N]()-a {
		return 0, false
	}
	return a + b, true
}

// Sub tells a - b.
func Sub[N Number](a, b N) (N, bool) {
	if a < b {
		return 0, false
	}
	return a - b, true
}

// Mul tells a * b.
func Mul[N Number](a, b N) (N, bool) {
	high, low := bits.Mul64(uint64(a), uint64(b))
	if high != 0 {
		return 0, false
	}
	return To[N](low)
}

// Up tells the least multiple of align that is not below n.
func Up[N Number](n, align N) (N, bool) {
	if align == 0 {
		return 0, false
	}
	over := n % align
	if over == 0 {
		return n, true
	}
	return Add(n, align-over)
}

package scan

import "bulkhead/api"

// signs are the signs in the order of their kinds, from api.TOpen on.
var signs = [...]string{
	"{", "}", "[", "]", "(", ")", ";", ",", "..", "=", "==", "!=", "<", "<=", ">", ">=",
	"|", "^", "&", "<<", ">>", "+", "-", "*", "/", "%",
}

// sign reads the longest sign that stands here. Each byte that it is called at
// begins one: where none stands, it is the second byte that is wrong.
func (c *cutter) sign() (int, bool) {
	kind, size := 0, 0
	for i := range signs {
		if n := len(signs[i]); n > size && c.stands(signs[i]) {
			kind, size = api.TOpen+i, n
		}
	}
	if size == 0 {
		c.at++
		return 0, false
	}
	c.at += size
	return kind, true
}

// stands tells whether a text comes next.
func (c *cutter) stands(text string) bool {
	if len(text) > len(c.src)-c.at {
		return false
	}
	for i := range len(text) {
		if c.src[c.at+i] != text[i] {
			return false
		}
	}
	return true
}

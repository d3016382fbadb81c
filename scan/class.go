package scan

// The classes of bytes, by what may begin with them. Those of word bytes stand
// last: isWord asks for no more than that.
const (
	other  = iota // nothing
	blank         // a blank
	hash          // a comment
	quote         // a text
	mark          // a sign
	letter        // a word
	digit         // an integer
)

// classes tells the class of each byte below 128; those above are other.
var classes = [128]uint8{
	'\t': blank, '\n': blank, '\r': blank, ' ': blank,
	'#': hash,
	'"': quote,

	'{': mark, '}': mark, '[': mark, ']': mark, '(': mark, ')': mark,
	';': mark, ',': mark, '.': mark, '=': mark, '!': mark, '<': mark, '>': mark,
	'|': mark, '^': mark, '&': mark, '+': mark, '-': mark, '*': mark, '/': mark, '%': mark,

	'a': letter, 'b': letter, 'c': letter, 'd': letter, 'e': letter, 'f': letter, 'g': letter,
	'h': letter, 'i': letter, 'j': letter, 'k': letter, 'l': letter, 'm': letter, 'n': letter,
	'o': letter, 'p': letter, 'q': letter, 'r': letter, 's': letter, 't': letter, 'u': letter,
	'v': letter, 'w': letter, 'x': letter, 'y': letter, 'z': letter,
	'A': letter, 'B': letter, 'C': letter, 'D': letter, 'E': letter, 'F': letter, 'G': letter,
	'H': letter, 'I': letter, 'J': letter, 'K': letter, 'L': letter, 'M': letter, 'N': letter,
	'O': letter, 'P': letter, 'Q': letter, 'R': letter, 'S': letter, 'T': letter, 'U': letter,
	'V': letter, 'W': letter, 'X': letter, 'Y': letter, 'Z': letter,
	'_': letter,

	'0': digit, '1': digit, '2': digit, '3': digit, '4': digit,
	'5': digit, '6': digit, '7': digit, '8': digit, '9': digit,
}

// class tells the class of a byte.
func class(b byte) uint8 {
	if b < 128 {
		return classes[b]
	}
	return other
}

// isWord tells a word byte.
func isWord(b byte) bool { return class(b) >= letter }

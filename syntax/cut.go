package syntax

import (
	"bytes"

	"bulkhead/api"
	"bulkhead/scan"
)

// cut tells the lexemes of a text, how far they go, and whether that is all of
// it. Of a text that is no row of lexemes it is those ahead of the first wrong
// byte, since the grammar may refuse one of them; the last of them may be one
// that is only begun.
func cut(src []byte) ([]api.Token, int, bool) {
	list, end, why := scan.Tokens(src)
	if why == api.OK {
		return list, len(src), true
	}
	list, _, why = scan.Tokens(src[:end])
	if why == api.OK {
		return list, end, false
	}
	from := begun(src[:end])
	list, _, _ = scan.Tokens(src[:from])
	return append(list, api.Token{Kind: kindOf(src[from]), At: from, End: end}), end, false
}

// begun tells where the lexeme begins within which a text ends: in a text,
// behind an integer's 0x, behind a single point or exclamation mark. None goes
// over the end of a line, and no comment stands ahead of it in its own.
func begun(src []byte) int {
	text := -1
	for at := bytes.LastIndexByte(src, '\n') + 1; at < len(src); at++ {
		switch {
		case src[at] == '\\': // in a text, and what stands behind it is no end
			at++
		case src[at] == '"' && text < 0:
			text = at
		case src[at] == '"':
			text = -1
		}
	}
	switch {
	case text >= 0:
		return text
	case bytes.HasSuffix(src, []byte("0x")):
		return len(src) - 2
	}
	return len(src) - 1
}

// kindOf tells the kind of a lexeme that is only begun, by its first byte. A
// sign's is not asked for: it is known by its spelling.
func kindOf(first byte) int {
	switch first {
	case '"':
		return api.TText
	case '0':
		return api.TInt
	}
	return 0
}

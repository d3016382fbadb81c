package scan

const hexDigits = "0123456789abcdef"

// text reads a text, of which the first quote is known to stand here: the bytes
// that it stands for.
func (c *cutter) text() (string, bool) {
	var out []byte
	var b byte
	var high, low uint64
plain:
	c.at++
	b = c.ahead()
	switch {
	case b == '"':
		goto end
	case b == '\\':
		goto escape
	case b < 32 || b > 126:
		goto wrong
	}
	out = append(out, b)
	goto plain
escape:
	c.at++
	b = c.ahead()
	switch b {
	case 'x':
		goto hex
	case 'n':
		b = '\n'
	case 't':
		b = '\t'
	case '\\', '"':
	default:
		goto wrong
	}
	out = append(out, b)
	goto plain
hex:
	c.at++
	high = value(c.ahead())
	if high > 15 {
		goto wrong
	}
	c.at++
	low = value(c.ahead())
	if low > 15 {
		goto wrong
	}
	out = append(out, byte(high<<4|low))
	goto plain
end:
	c.at++
	return string(out), true
wrong:
	return "", false
}

// Quote spells a text.
func Quote(text string) []byte {
	out := []byte{'"'}
	for i := 0; i < len(text); i++ {
		out = spell(out, text[i])
	}
	return append(out, '"')
}

// spell adds the spelling of a byte.
func spell(out []byte, b byte) []byte {
	switch {
	case b == '\n':
		return append(out, '\\', 'n')
	case b == '\t':
		return append(out, '\\', 't')
	case b == '\\' || b == '"':
		return append(out, '\\', b)
	case b < 32 || b > 126:
		return append(out, '\\', 'x', hexDigits[b>>4], hexDigits[b&15])
	}
	return append(out, b)
}

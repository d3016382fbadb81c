package render

import "bulkhead/api"

// pen writes lexemes one behind the other.
type pen struct {
	nodes []api.Node // those of the expressions that it writes
	text  []byte
	rest  []func() // what is still to be written of an expression, the next one last
}

// put writes a lexeme, behind a space where one belongs.
func (p *pen) put(lexeme string) {
	if p.apart(lexeme) {
		p.text = append(p.text, ' ')
	}
	p.text = append(p.text, lexeme...)
}

// hug writes a lexeme without a space ahead of it.
func (p *pen) hug(lexeme string) { p.text = append(p.text, lexeme...) }

// apart tells whether a space belongs ahead of a lexeme. The last byte that was
// written tells enough of the lexeme ahead: no text and no name ends with one of
// these.
func (p *pen) apart(lexeme string) bool {
	if len(p.text) == 0 {
		return false
	}
	switch p.text[len(p.text)-1] {
	case '\n', ' ', '(', '[':
		return false
	}
	switch lexeme {
	case ";", ",", ")", "[", "]":
		return false
	}
	return true
}

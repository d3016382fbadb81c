package syntax

import "bulkhead/api"

// lexemes are those of a text that are still ahead. What may stand at a place
// is what has been asked for there, one thing behind the other, when nothing of
// it was found: so the first wrong byte is told without a list of what may
// follow what.
type lexemes struct {
	src    []byte
	list   []api.Token
	end    int       // how far the lexemes of the text go
	whole  bool      // whether that is all of the text
	last   api.Token // the one that was read last
	words  []string  // the reserved words and signs that were asked for next
	naming bool      // whether a name was
	open   int       // how many brackets are open
	wrong  int       // where the text is refused
	why    api.Errno // and why
}

// ahead tells the lexemes of a text.
func ahead(src []byte) lexemes {
	l := lexemes{src: src}
	l.list, l.end, l.whole = cut(src)
	return l
}

// takes reads a reserved word or a sign, if it comes next.
func (l *lexemes) takes(word string) bool {
	l.words = append(l.words, word)
	if len(l.list) == 0 || string(l.spelling()) != word {
		return false
	}
	l.step()
	return true
}

// takesOne reads one of these signs, if one of them comes next.
func (l *lexemes) takesOne(signs []string) bool {
	for _, s := range signs {
		if l.takes(s) {
			return true
		}
	}
	return false
}

// takesKind reads a name, an integer or a text, if one comes next.
func (l *lexemes) takesKind(kind int) bool {
	l.naming = l.naming || kind == api.TName
	if len(l.list) == 0 || l.list[0].Kind != kind {
		return false
	}
	l.step()
	return true
}

// needs reads a reserved word or a sign, or refuses the text.
func (l *lexemes) needs(word string) {
	if !l.takes(word) {
		l.refuse()
	}
}

// step goes behind the next lexeme, if it is no bracket too many.
func (l *lexemes) step() {
	l.last, l.list = l.list[0], l.list[1:]
	l.words, l.naming = l.words[:0], false
	switch l.last.Kind {
	case api.TOpen, api.TSquare, api.TParen:
		l.open++
	case api.TShut, api.TUnsquare, api.TUnparen:
		l.open--
	}
	if l.open > api.MaxDepth {
		l.stop(l.last.At, api.ErrDeep)
	}
}

// ends refuses what stands behind the policy.
func (l *lexemes) ends() {
	if len(l.list) > 0 || !l.whole {
		l.refuse()
	}
}

// refuse refuses what comes next: it is nothing that was asked for.
func (l *lexemes) refuse() {
	if len(l.list) == 0 {
		l.stop(l.end, api.ErrSyntax)
	}
	l.stop(l.list[0].At+l.right(), api.ErrSyntax)
}

// stop refuses the text, out of whatever depth.
func (l *lexemes) stop(at int, why api.Errno) {
	l.wrong, l.why = at, why
	panic(why)
}

// spelling tells the next lexeme's own bytes.
func (l *lexemes) spelling() []byte { return l.src[l.list[0].At:l.list[0].End] }

// right tells with how many of the next lexeme's bytes something begins that
// was asked for. Integers and texts need no look: nothing else begins as they
// do.
func (l *lexemes) right() int {
	if l.naming && l.list[0].Kind >= api.WSystem {
		return len(l.spelling()) // a name may begin with a reserved word
	}
	most := 0
	for _, w := range l.words {
		most = max(most, shared(w, l.spelling()))
	}
	return most
}

// shared tells how many bytes two spellings begin with alike.
func shared(word string, spelling []byte) int {
	n := 0
	for n < min(len(word), len(spelling)) && word[n] == spelling[n] {
		n++
	}
	return n
}

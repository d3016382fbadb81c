package render

import (
	"bulkhead/api"
	"bulkhead/scan"
)

// sheet puts the lines of a tree together while it goes through it in the order
// of the text, and finds out whether it is a text's tree. A piece of a line is a
// closure that writes what it closes over: none is called ahead of the whole
// tree being found right, as the lines of a wrong one may be longer than any
// answer.
type sheet struct {
	pen
	tree   api.Tree
	pieces []func()
	items  int // how many items it has come by
	seen   int // and how many nodes
	depth  int // in how many blocks the next line stands
	wrong  bool
}

// needs holds that the tree is right in this.
func (s *sheet) needs(ok bool) { s.wrong = s.wrong || !ok }

// write puts a piece behind the others.
func (s *sheet) write(piece func()) { s.pieces = append(s.pieces, piece) }

// begin begins a line, as far to the right as its block asks.
func (s *sheet) begin() {
	depth := s.depth
	s.write(func() {
		for range depth {
			s.hug("  ")
		}
	})
}

// end ends a line.
func (s *sheet) end() { s.write(func() { s.hug("\n") }) }

// lexemes writes reserved words and signs.
func (s *sheet) lexemes(list ...string) {
	for _, l := range list {
		s.write(s.lexeme(l))
	}
}

// word writes a name that has no indices.
func (s *sheet) word(ref api.Ref) {
	s.needs(len(ref.Index) == 0)
	s.name(ref)
}

// name writes a name and its indices.
func (s *sheet) name(ref api.Ref) {
	s.needs(scan.Legal(ref.Word))
	s.lexemes(ref.Word)
	for _, root := range ref.Index {
		s.lexemes("[")
		s.root(root)
		s.lexemes("]")
	}
}

// root writes the expression that comes next in the text.
func (s *sheet) root(root int) {
	if s.wrong || !follow(s.nodes, s.seen, root) {
		s.wrong = true
		return
	}
	s.seen = root + 1
	s.write(func() { s.expr(root) })
}

// row writes parts in parentheses, right behind a name, with commas between.
func (s *sheet) row(parts int, part func(i int)) {
	s.write(func() { s.hug("(") })
	for i := range parts {
		if i > 0 {
			s.lexemes(",")
		}
		part(i)
	}
	s.lexemes(")")
}

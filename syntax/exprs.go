package syntax

import "bulkhead/api"

// word reads a name without indices.
func (p *parser) word() api.Ref {
	if !p.takesKind(api.TName) {
		p.refuse()
	}
	return api.Ref{Word: p.last.S, At: p.last.At}
}

// name reads a name and its indices.
func (p *parser) name() api.Ref {
	ref := p.word()
	for p.takes("[") {
		ref.Index = append(ref.Index, p.expr())
		p.needs("]")
	}
	return ref
}

// The readers of expressions answer the number of the node that they read; all
// nodes of its parts stand ahead of it.

func (p *parser) expr() int {
	first := p.bits()
	if !p.takesOne([]string{"==", "!=", "<", "<=", ">", ">="}) {
		return first
	}
	sign := p.last
	return p.operator(sign, first, p.bits())
}

func (p *parser) bits() int  { return p.chain(p.xors, "|") }
func (p *parser) xors() int  { return p.chain(p.ands, "^") }
func (p *parser) ands() int  { return p.chain(p.shift, "&") }
func (p *parser) shift() int { return p.chain(p.sum, "<<", ">>") }
func (p *parser) sum() int   { return p.chain(p.prod, "+", "-") }
func (p *parser) prod() int  { return p.chain(p.atom, "*", "/", "%") }

// chain reads parts with these signs between, the first two together first.
func (p *parser) chain(part func() int, signs ...string) int {
	all := part()
	for p.takesOne(signs) {
		sign := p.last
		all = p.operator(sign, all, part())
	}
	return all
}

func (p *parser) atom() int {
	switch {
	case p.takesKind(api.TInt):
		return p.node(api.Node{Op: api.XInt, N: p.last.N, At: p.last.At})
	case p.takesKind(api.TName):
		return p.node(api.Node{Op: api.XName, S: p.last.S, At: p.last.At})
	}
	p.needs("(")
	inner := p.expr()
	p.needs(")")
	return inner
}

// operator keeps a sign's node over its two parts.
func (p *parser) operator(sign api.Token, first, second int) int {
	return p.node(api.Node{Op: sign.Kind, Kids: []int{first, second}, At: sign.At})
}

// node keeps a node: its number.
func (p *parser) node(n api.Node) int {
	p.tree.Nodes = append(p.tree.Nodes, n)
	return len(p.tree.Nodes) - 1
}

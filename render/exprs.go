package render

import (
	"bulkhead/api"
	"bulkhead/scan"
)

// The ranks that are named: those of no node, of the operators that stand beside
// none of their own rank, and of what needs no parentheses anywhere.
const (
	none       = 0
	comparison = 1
	atom       = 8
)

// ranks are those of the nodes by their kinds: what binds more is higher.
var ranks = [api.TRem + 1]int{
	api.XInt: atom, api.XName: atom,
	api.TEqual: comparison, api.TUnlike: comparison,
	api.TLess: comparison, api.TAtMost: comparison,
	api.TMore: comparison, api.TAtLeast: comparison,
	api.TOr: 2, api.TXor: 3, api.TAnd: 4,
	api.TShl: 5, api.TShr: 5,
	api.TAdd: 6, api.TSub: 6,
	api.TMul: 7, api.TDiv: 7, api.TRem: 7,
}

// signs are the operators' own lexemes.
var signs = [api.TRem + 1]string{
	api.TEqual: "==", api.TUnlike: "!=",
	api.TLess: "<", api.TAtMost: "<=",
	api.TMore: ">", api.TAtLeast: ">=",
	api.TOr: "|", api.TXor: "^", api.TAnd: "&",
	api.TShl: "<<", api.TShr: ">>",
	api.TAdd: "+", api.TSub: "-",
	api.TMul: "*", api.TDiv: "/", api.TRem: "%",
}

// rank tells the rank of a kind, none of what is no node's.
func rank(op int) int {
	if op < 0 || op >= len(ranks) {
		return none
	}
	return ranks[op]
}

// right tells whether a node is one, by itself.
func right(n api.Node) bool {
	switch {
	case n.Op == api.XInt:
		return n.S == "" && len(n.Kids) == 0
	case n.Op == api.XName:
		return n.N == 0 && scan.Legal(n.S) && len(n.Kids) == 0
	}
	return rank(n.Op) != none && n.N == 0 && n.S == "" && len(n.Kids) == 2
}

// reaches tells whether what a root reaches is an expression's tree.
func reaches(nodes []api.Node, root int) bool {
	if root < 0 || root >= len(nodes) {
		return false
	}
	seen := make([]bool, root)
	for rest := []int{root}; len(rest) > 0; {
		n := rest[len(rest)-1]
		rest = rest[:len(rest)-1]
		if !right(nodes[n]) {
			return false
		}
		for _, kid := range nodes[n].Kids {
			if kid < 0 || kid >= n || seen[kid] {
				return false
			}
			seen[kid] = true
			rest = append(rest, kid)
		}
	}
	return true
}

// follow tells whether the nodes from first up to root are one expression's, in
// the order of its text: each operator stands behind its parts, and these are
// the last two that have none yet.
func follow(nodes []api.Node, first, root int) bool {
	if root >= len(nodes) {
		return false
	}
	var parts []int
	for n := first; n <= root; n++ {
		if !right(nodes[n]) {
			return false
		}
		if kids := nodes[n].Kids; len(kids) == 2 {
			last := len(parts) - 2
			if last < 0 || parts[last] != kids[0] || parts[last+1] != kids[1] {
				return false
			}
			parts = parts[:last]
		}
		parts = append(parts, n)
	}
	return len(parts) == 1
}

// expr writes an expression. Its parts do not write one another, as one may be
// deeper than calls should go.
func (p *pen) expr(root int) {
	p.rest = append(p.rest, func() { p.part(root, none) })
	for len(p.rest) > 0 {
		last := len(p.rest) - 1
		write := p.rest[last]
		p.rest = p.rest[:last]
		write()
	}
}

// part writes a node, in parentheses if its rank is below the least that may
// stand there without; what belongs to it comes next.
func (p *pen) part(n, least int) {
	node := p.nodes[n]
	own := ranks[node.Op]
	switch {
	case own < least:
		p.next(p.lexeme("("), func() { p.part(n, none) }, p.lexeme(")"))
	case node.Op == api.XInt:
		p.put(string(scan.Number(node.N)))
	case node.Op == api.XName:
		p.put(node.S)
	default:
		first := own
		if own == comparison {
			first++
		}
		p.next(
			func() { p.part(node.Kids[0], first) },
			p.lexeme(signs[node.Op]),
			func() { p.part(node.Kids[1], own+1) },
		)
	}
}

// lexeme makes what writes a lexeme.
func (p *pen) lexeme(s string) func() { return func() { p.put(s) } }

// next puts these ahead of all that is still to be written of an expression.
func (p *pen) next(writes ...func()) {
	for i := len(writes) - 1; i >= 0; i-- {
		p.rest = append(p.rest, writes[i])
	}
}

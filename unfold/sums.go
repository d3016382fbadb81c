package unfold

import (
	"math/bits"

	"bulkhead/api"
)

// operator works an operator out of its two parts.
type operator func(a, b uint64) (uint64, api.Errno)

// operators makes the operators, by their kinds.
func operators() map[int]operator {
	within := func(n, beyond uint64) (uint64, api.Errno) {
		if beyond != 0 {
			return 0, api.ErrOver
		}
		return n, api.OK
	}
	plain := func(n uint64) (uint64, api.Errno) { return within(n, 0) }
	truth := func(holds bool) (uint64, api.Errno) {
		if holds {
			return plain(1)
		}
		return plain(0)
	}
	divided := func(of func(a, b uint64) uint64) operator {
		return func(a, b uint64) (uint64, api.Errno) {
			if b == 0 {
				return 0, api.ErrZero
			}
			return plain(of(a, b))
		}
	}
	return map[int]operator{
		api.TEqual:   func(a, b uint64) (uint64, api.Errno) { return truth(a == b) },
		api.TUnlike:  func(a, b uint64) (uint64, api.Errno) { return truth(a != b) },
		api.TLess:    func(a, b uint64) (uint64, api.Errno) { return truth(a < b) },
		api.TAtMost:  func(a, b uint64) (uint64, api.Errno) { return truth(a <= b) },
		api.TMore:    func(a, b uint64) (uint64, api.Errno) { return truth(a > b) },
		api.TAtLeast: func(a, b uint64) (uint64, api.Errno) { return truth(a >= b) },
		api.TOr:      func(a, b uint64) (uint64, api.Errno) { return plain(a | b) },
		api.TXor:     func(a, b uint64) (uint64, api.Errno) { return plain(a ^ b) },
		api.TAnd:     func(a, b uint64) (uint64, api.Errno) { return plain(a & b) },
		api.TShr:     func(a, b uint64) (uint64, api.Errno) { return plain(a >> b) },
		api.TAdd:     func(a, b uint64) (uint64, api.Errno) { return within(bits.Add64(a, b, 0)) },
		api.TSub:     func(a, b uint64) (uint64, api.Errno) { return within(bits.Sub64(a, b, 0)) },
		api.TShl: func(a, b uint64) (uint64, api.Errno) {
			lost := a - a<<b>>b
			return within(a<<b, lost)
		},
		api.TMul: func(a, b uint64) (uint64, api.Errno) {
			beyond, n := bits.Mul64(a, b)
			return within(n, beyond)
		},
		api.TDiv: divided(func(a, b uint64) uint64 { return a / b }),
		api.TRem: divided(func(a, b uint64) uint64 { return a % b }),
	}
}

// first tells the first node of an expression: its nodes stand one behind the
// other, the root last.
func (w *works) first(root int) int {
	for len(w.tree.Nodes[root].Kids) > 0 {
		root = w.tree.Nodes[root].Kids[0]
	}
	return root
}

// nodes counts the nodes of expressions.
func (w *works) nodes(roots []int) uint64 {
	var sum int
	for _, root := range roots {
		sum += root - w.first(root) + 1
	}
	return uint64(sum)
}

// value works an expression out. As each operator stands behind its parts, a
// pile of numbers does, and no depth of an expression is a depth of calls.
func (w *works) value(root int, in *block) uint64 {
	pile := w.pile[:0]
	for n := w.first(root); n <= root; n++ {
		node := &w.tree.Nodes[n]
		switch node.Op {
		case api.XInt:
			pile = append(pile, node.N)
		case api.XName:
			pile = append(pile, w.named(node, in))
		default:
			under := len(pile) - 2
			number, why := w.operators[node.Op](pile[under], pile[under+1])
			if why != api.OK {
				w.refuse(node.At, why)
			}
			pile = append(pile[:under], number)
		}
	}
	w.pile = pile
	return pile[0]
}

// named tells the number of a name in an expression.
func (w *works) named(node *api.Node, in *block) uint64 {
	number, ok := in.find(node.S)
	if !ok {
		w.refuse(node.At, api.ErrName)
	}
	return number
}

// values works expressions out, one behind the other.
func (w *works) values(roots []int, in *block) []uint64 {
	var list []uint64
	for _, root := range roots {
		list = append(list, w.value(root, in))
	}
	return list
}

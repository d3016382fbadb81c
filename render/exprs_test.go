package render

import (
	"fmt"
	"strings"
	"testing"

	"bulkhead/api"
	"bulkhead/syntax"
)

var operators = strings.Fields("== != < <= > >= | ^ & << >> + - * / %")

// shape is an expression of a test: an operator over two, or a leaf.
type shape struct {
	op          int
	left, right *shape
}

// shapes calls visit with each expression of so many operators.
func shapes(ops int, visit func(s *shape)) {
	if ops == 0 {
		visit(&shape{})
		return
	}
	for left := range ops {
		shapes(left, func(l *shape) {
			shapes(ops-1-left, func(r *shape) {
				for i := range operators {
					visit(&shape{op: api.TEqual + i, left: l, right: r})
				}
			})
		})
	}
}

// spelt spells an expression, its operators in parentheses as the bits of which
// say, in the order in which they are come by; next is the number of the next
// one.
func (s *shape) spelt(which uint, next *uint) string {
	if s.left == nil {
		return "a"
	}
	in := which>>*next&1 == 1
	*next++
	text := s.left.spelt(which, next) + " " + operators[s.op-api.TEqual] + " " + s.right.spelt(which, next)
	if in {
		return "(" + text + ")"
	}
	return text
}

// nodes are those of an expression.
func (s *shape) nodes(list []api.Node) []api.Node {
	if s.left == nil {
		return append(list, api.Node{Op: api.XName, S: "a"})
	}
	list = s.left.nodes(list)
	first := len(list) - 1
	list = s.right.nodes(list)
	return append(list, api.Node{Op: s.op, Kids: []int{first, len(list) - 1}})
}

// TestFewest: P7.1, P7.2: of all ways to put parentheses around operators the
// one that is read as the tree and has the fewest.
func TestFewest(t *testing.T) {
	t.Parallel()
	for ops := range 4 {
		shapes(ops, func(s *shape) {
			nodes := s.nodes(nil)
			got, why := Expr(api.Tree{Nodes: nodes}, len(nodes)-1)
			if why != api.OK {
				t.Fatalf("P7.2: %v: %v", nodes, why)
			}
			if want := fewest(s, ops, nodes); string(got) != want {
				t.Fatalf("P7.2: %q, want %q", got, want)
			}
		})
	}
}

// fewest tries all ways; "", if two of them have as few.
func fewest(s *shape, ops int, nodes []api.Node) string {
	best, twice := "", false
	for which := range uint(1) << ops {
		next := uint(0)
		text := s.spelt(which, &next)
		n, m := strings.Count(text, "("), strings.Count(best, "(")
		if best != "" && n > m {
			continue
		}
		tree, _, why := syntax.Parse([]byte("system s { assert " + text + "; }"))
		if why != api.OK || fmt.Sprint(unplaced(tree).Nodes) != fmt.Sprint(nodes) {
			continue
		}
		best, twice = text, best != "" && n == m
	}
	if twice {
		return ""
	}
	return best
}

// TestExamples: P7.2: the chapter's examples.
func TestExamples(t *testing.T) {
	for src, want := range map[string]string{
		"(1+2)*3-(4-5)": "(1 + 2) * 3 - (4 - 5)",
		"((1*2))+3":     "1 * 2 + 3",
		"1 - (2 - 3)":   "1 - (2 - 3)",
		"(1 - 2) - 3":   "1 - 2 - 3",
		"(a == b) == c": "(a == b) == c",
		"a == (b == c)": "a == (b == c)",
		"((((0xff))))":  "255",
	} {
		tree := read(t, "system s { assert "+src+"; }")
		if got, why := Expr(tree, len(tree.Nodes)-1); why != api.OK || string(got) != want {
			t.Errorf("P7.2: %s: %q %v, want %q", src, got, why, want)
		}
	}
}

// TestEveryRoot: P7.2: each node is a root of its own, and the other rows are
// not looked at.
func TestEveryRoot(t *testing.T) {
	tree := read(t, "system s { assert (1 + a) * 3; }")
	for root, want := range []string{"1", "a", "1 + a", "3", "(1 + a) * 3"} {
		if got, why := Expr(tree, root); why != api.OK || string(got) != want {
			t.Errorf("P7.2: root %d: %q %v, want %q", root, got, why, want)
		}
	}
	other := api.Tree{Name: api.Ref{Word: "9"}, Top: []int{7}, Items: []api.Item{{Kind: -1}}, Nodes: []api.Node{
		{Op: -1}, {Op: api.XInt, N: 5}, {Op: api.TAdd, Kids: []int{4, 0}}, {Op: api.XName, S: "b"}, {Op: api.TSub, Kids: []int{3, 1}, At: -7}, {Op: 99},
	}}
	if got, why := Expr(other, 4); why != api.OK || string(got) != "b - 5" {
		t.Errorf("P7.2: %q %v", got, why)
	}
}

// wrongNodes are nodes that are none by themselves, over two right ones.
var wrongNodes = []api.Node{
	{},
	{Op: -1},
	{Op: -1 << 63},
	{Op: 1<<63 - 1},
	{Op: api.TText, S: "a"},
	{Op: api.TOpen},
	{Op: api.TAssign, Kids: []int{0, 1}},
	{Op: api.TDots, Kids: []int{0, 1}},
	{Op: api.WSystem, Kids: []int{0, 1}},
	{Op: api.WSystem},
	{Op: api.XInt, S: "a"},
	{Op: api.XInt, Kids: []int{0}},
	{Op: api.XInt, Kids: []int{0, 1}},
	{Op: api.XName},
	{Op: api.XName, S: "a", N: 1},
	{Op: api.XName, S: "a", Kids: []int{0, 1}},
	{Op: api.XName, S: "system"},
	{Op: api.XName, S: "a.1"},
	{Op: api.XName, S: "9"},
	{Op: api.XName, S: strings.Repeat("a", 33)},
	{Op: api.TAdd},
	{Op: api.TAdd, Kids: []int{0}},
	{Op: api.TAdd, Kids: []int{1}},
	{Op: api.TAdd, Kids: []int{0, 1, 1}},
	{Op: api.TAdd, Kids: []int{0, 1}, N: 1},
	{Op: api.TAdd, Kids: []int{0, 1}, S: "a"},
	{Op: api.TAdd, Kids: []int{0, 0}},
	{Op: api.TAdd, Kids: []int{1, 1}},
	{Op: api.TAdd, Kids: []int{0, 2}},
	{Op: api.TAdd, Kids: []int{2, 1}},
	{Op: api.TAdd, Kids: []int{0, 3}},
	{Op: api.TAdd, Kids: []int{-1, 1}},
	{Op: api.TAdd, Kids: []int{0, -1 << 63}},
	{Op: api.TAdd, Kids: []int{0, 1<<63 - 1}},
}

func TestWrongNodes(t *testing.T) {
	for _, n := range wrongNodes {
		nodes := []api.Node{{Op: api.XInt}, {Op: api.XName, S: "a"}, n}
		tree := api.Tree{Nodes: nodes}
		if got, why := Expr(tree, 2); why != api.ErrForm || len(got) != 0 {
			t.Errorf("P7.2: %+v: %q %v", n, got, why)
		}
		if got, why := Expr(tree, 1); why != api.OK || string(got) != "a" {
			t.Errorf("P7.2: ahead of %+v: %q %v", n, got, why)
		}
		tree.Nodes = append(nodes, api.Node{Op: api.XInt}, api.Node{Op: api.TMul, Kids: []int{2, 3}})
		if got, why := Expr(tree, 4); why != api.ErrForm || len(got) != 0 {
			t.Errorf("P7.2: above %+v: %q %v", n, got, why)
		}
		policy := api.Tree{Name: api.Ref{Word: "s"}, Items: []api.Item{{Kind: api.IAssert, E: []int{2}}}, Top: []int{0}, Nodes: nodes}
		if got, why := Print(policy); why != api.ErrForm || len(got) != 0 {
			t.Errorf("P7.1: %+v: %q %v", n, got, why)
		}
	}
}

func TestWrongRoots(t *testing.T) {
	tree := api.Tree{Nodes: []api.Node{{Op: api.XInt}, {Op: api.XInt}}}
	for _, root := range []int{-1, 2, 3, -1 << 63, 1<<63 - 1} {
		if got, why := Expr(tree, root); why != api.ErrForm || len(got) != 0 {
			t.Errorf("P7.2: root %d: %q %v", root, got, why)
		}
	}
	for _, root := range []int{-1, 0, 1} {
		if got, why := Expr(api.Tree{}, root); why != api.ErrForm || len(got) != 0 {
			t.Errorf("P7.2: no nodes, root %d: %q %v", root, got, why)
		}
	}
}

// TestRows: P7.2 of all short rows of nodes, against the chapter's words gone
// through one by one.
func TestRows(t *testing.T) {
	t.Parallel()
	choice := []api.Node{{Op: api.XInt, N: 7}, {Op: api.XName}}
	for a := -1; a < 4; a++ {
		for b := -1; b < 4; b++ {
			choice = append(choice, api.Node{Op: api.TSub, Kids: []int{a, b}})
		}
	}
	right := 0
	nodes := make([]api.Node, 4)
	for i := range len(choice) * len(choice) * len(choice) * len(choice) {
		for k := range nodes {
			nodes[k] = choice[i%len(choice)]
			i /= len(choice)
		}
		for root := range nodes {
			want := spelling(nodes, root)
			got, why := Expr(api.Tree{Nodes: nodes}, root)
			if string(got) != want || (why == api.OK) != (want != "") || why != api.OK && why != api.ErrForm {
				t.Fatalf("P7.2: %v root %d: %q %v, want %q", nodes, root, got, why, want)
			}
			if want != "" {
				right++
			}
		}
	}
	if right < 1000 {
		t.Errorf("%d: too few to tell", right)
	}
}

// spelling spells an expression of 7 and -; "", if it is none.
func spelling(nodes []api.Node, root int) string {
	times := map[int]int{}
	var spell func(n int) string
	spell = func(n int) string {
		times[n]++
		if nodes[n].Op == api.XInt {
			return "7"
		}
		if nodes[n].Op == api.XName {
			return "!"
		}
		text := ""
		for i, k := range nodes[n].Kids {
			if k < 0 || k >= n {
				return "!"
			}
			part := spell(k)
			if i == 1 && len(part) > 1 {
				part = "(" + part + ")"
			}
			text += [2]string{"", " - "}[i] + part
		}
		return text
	}
	text := spell(root)
	for _, n := range times {
		if n > 1 {
			return ""
		}
	}
	if strings.Contains(text, "!") {
		return ""
	}
	return text
}

package render

import (
	"strings"
	"testing"

	"bulkhead/api"
	"bulkhead/syntax"
)

// chain makes an expression of so many operators, each the first (or the
// second) part of the next; the second parts stand ahead of all operators.
func chain(ops int, second bool) []api.Node {
	nodes := []api.Node{{Op: api.XInt, N: 1}}
	if second {
		for range ops {
			nodes = append(nodes, api.Node{Op: api.XInt, N: 1})
		}
		for i := range ops {
			nodes = append(nodes, api.Node{Op: api.TSub, Kids: []int{ops - 1 - i, ops + i}})
		}
		return nodes
	}
	for range ops {
		n := len(nodes)
		nodes = append(nodes, api.Node{Op: api.XInt, N: 1}, api.Node{Op: api.TSub, Kids: []int{n - 1, n}})
	}
	return nodes
}

// TestDeepExpressions: P7.1, P7.2, R6.
func TestDeepExpressions(t *testing.T) {
	t.Parallel()
	const ops = 1 << 16
	flat := strings.Repeat("1 - ", ops) + "1"
	nested := strings.Repeat("1 - (", ops-1) + "1 - 1" + strings.Repeat(")", ops-1)
	for _, c := range []struct {
		nodes []api.Node
		want  string
	}{{chain(ops, false), flat}, {chain(ops, true), nested}} {
		root := len(c.nodes) - 1
		if got, why := Expr(api.Tree{Nodes: c.nodes}, root); why != api.OK || string(got) != c.want {
			t.Errorf("P7.2: %d bytes, %v, want %d bytes", len(got), why, len(c.want))
		}
		tree := api.Tree{Name: api.Ref{Word: "s"}, Top: []int{0}, Items: []api.Item{{Kind: api.IAssert, E: []int{root}}}, Nodes: c.nodes}
		if got, why := Print(tree); why != api.OK || string(got) != "system s {\n  assert "+c.want+";\n}\n" {
			t.Errorf("P7.1: %d bytes, %v", len(got), why)
		}
	}
}

// TestLongest: P7.4 of texts of 2^20 bytes: the longest row of operators; and
// lines that stand far to the right.
func TestLongest(t *testing.T) {
	t.Parallel()
	src := "system s{assert 1" + strings.Repeat("-1", (api.MaxText-20)/2) + ";}"
	got := printed(t, read(t, src))
	if want := strings.Replace(strings.Replace(strings.ReplaceAll(src, "-", " - "), "{", " {\n  ", 1), ";", ";\n", 1) + "\n"; got != want {
		t.Errorf("P7.4: %d bytes, want %d", len(got), len(want))
	}
	inner := (api.MaxText - 32*9) / 9
	src = "system s{" + strings.Repeat("if 1{", 31) + strings.Repeat("assert 1;", inner-20) + strings.Repeat("}", 32)
	got = printed(t, read(t, src))
	if len(got) <= api.MaxText || strings.Count(got, "\n"+strings.Repeat(" ", 64)+"assert 1;\n") == 0 {
		t.Errorf("P7.4: %d bytes", len(got))
	}
	if _, _, why := syntax.Parse([]byte(got)); why != api.ErrLong {
		t.Errorf("P7.4: %v", why)
	}
}

// ifs makes so many ifs, each in the block of the one ahead.
func ifs(count int) api.Tree {
	tree := api.Tree{Name: api.Ref{Word: "s"}, Top: []int{0}}
	for i := range count {
		x := api.Item{Kind: api.IIf, E: []int{i}, Kids: []int{i + 1}}
		if i == count-1 {
			x.Kids = nil
		}
		tree.Items = append(tree.Items, x)
		tree.Nodes = append(tree.Nodes, api.Node{Op: api.XInt})
	}
	return tree
}

// TestDeepBlocks: P7.1: deeper than any text that is read; a wrong tree whose
// lines would be longer than an answer may be is refused ahead of them.
func TestDeepBlocks(t *testing.T) {
	t.Parallel()
	const deep = 1 << 10
	got := printed(t, ifs(deep))
	if want := "\n" + strings.Repeat("  ", deep) + "if 0 {\n" + strings.Repeat("  ", deep) + "}\n"; !strings.Contains(got, want) {
		t.Errorf("P7.1: %d bytes", len(got))
	}
	if len(got) != len("system s {\n}\n")+deep*len("if 0 {\n}\n")+2*deep*(deep+1) {
		t.Errorf("P7.1: %d bytes", len(got))
	}
	tree := ifs(1<<16 - 1)
	tree.Nodes[len(tree.Nodes)-1].S = "x"
	refused(t, "a deep nest with a wrong end", tree)
}

// TestWrongAndLong: R1: a tree that is wrong from its first expression on is
// not gone through again and again.
func TestWrongAndLong(t *testing.T) {
	t.Parallel()
	const many = 1 << 17
	tree := api.Tree{Name: api.Ref{Word: "s"}, Top: []int{0}, Items: []api.Item{{Kind: api.IUse, Name: api.Ref{Word: "g"}}}}
	for range many {
		tree.Items[0].E = append(tree.Items[0].E, many-1)
		tree.Nodes = append(tree.Nodes, api.Node{Op: api.XInt})
	}
	refused(t, "roots that are one", tree)
}

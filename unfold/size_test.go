package unfold

import (
	"fmt"
	"strings"
	"testing"

	"bulkhead/api"
)

// TestLongExpressions: R1, R6: the longest expressions that a text can have,
// and ones that are nested deeper than any text.
func TestLongExpressions(t *testing.T) {
	t.Parallel()
	count := (api.MaxText - 40) / 2
	p := unfolded(t, "ram 1"+strings.Repeat("+1", count-40)+" size 5 ;")
	if p.Rams[0].At != uint64(count-39) || p.Rams[0].Size != 5 {
		t.Errorf("R6: %+v", p.Rams)
	}
	refused(t, "R6", "ram 1"+strings.Repeat("+1", count-60)+"@/0 size 5 ;", api.ErrZero)
	const ops = 1 << 16
	tree := api.Tree{Name: api.Ref{Word: "s"}, Top: []int{0}, Items: []api.Item{{Kind: api.IStart, Name: api.Ref{Word: "p", Index: []int{2 * ops}}}}}
	for range ops + 1 {
		tree.Nodes = append(tree.Nodes, api.Node{Op: api.XInt, N: 3})
	}
	for i := range ops {
		tree.Nodes = append(tree.Nodes, api.Node{Op: api.TSub, Kids: []int{ops - 1 - i, ops + i}, At: i})
	}
	if p, at, why := Unfold(tree); why != api.OK || at != 0 || p.Starts[0].Name != "p.3" {
		t.Errorf("R6: %+v, %d, %v", p, at, why)
	}
	tree.Nodes[ops].N = 4
	if _, at, why := Unfold(tree); why != api.ErrOver || at != 0 {
		t.Errorf("R6: %d, %v", at, why)
	}
}

// TestLongNames: P8.2: a name of more indices than any name can have.
func TestLongNames(t *testing.T) {
	t.Parallel()
	refused(t, "P8.2", "start @p"+strings.Repeat("[7]", 1<<18)+" ;", api.ErrLong)
}

// TestLongChains: R1: groups that use the one ahead, of a text and more than
// any text can have.
func TestLongChains(t *testing.T) {
	t.Parallel()
	const count = 30000
	var text strings.Builder
	text.WriteString("group g0 ( x ) { assert x == 7 ; ram x size 1 ; } ")
	for i := 1; i < count; i++ {
		fmt.Fprintf(&text, "group g%d(x){use g%d(x);}", i, i-1)
	}
	fmt.Fprintf(&text, " use g%d ( 7 ) ;", count-1)
	if p := unfolded(t, text.String()); len(p.Rams) != 1 || p.Rams[0].At != 7 {
		t.Errorf("R1: %+v", p)
	}
	const long = 1 << 17
	tree := api.Tree{Name: api.Ref{Word: "s"}}
	for i := range long {
		n := len(tree.Items)
		tree.Top = append(tree.Top, n)
		group := api.Item{Kind: api.IGroup, Name: api.Ref{Word: fmt.Sprint("g", i)}, Kids: []int{n + 1}}
		within := api.Item{Kind: api.IUse, Pos: n, Name: api.Ref{Word: fmt.Sprint("g", i-1)}}
		if i == 0 {
			within = api.Item{Kind: api.IStart, Pos: n, Name: api.Ref{Word: "p"}}
		}
		tree.Items = append(tree.Items, group, within)
	}
	tree.Top = append(tree.Top, len(tree.Items))
	tree.Items = append(tree.Items, api.Item{Kind: api.IUse, Name: api.Ref{Word: fmt.Sprint("g", long-1)}})
	if p, at, why := Unfold(tree); why != api.OK || at != 0 || len(p.Starts) != 1 {
		t.Errorf("R1: %+v, %d, %v", p, at, why)
	}
}

// TestDeepBlocks: R6: blocks that are nested far deeper than a text's; what is
// in sight around them all is in sight in the innermost.
func TestDeepBlocks(t *testing.T) {
	t.Parallel()
	const deep = 1 << 12
	tree := api.Tree{Name: api.Ref{Word: "s"}, Top: []int{0, 1}}
	tree.Items = []api.Item{{Kind: api.IConst, Name: api.Ref{Word: "a"}, E: []int{0}}}
	tree.Nodes = []api.Node{{Op: api.XInt, N: 9}}
	for i := range deep {
		n := len(tree.Items)
		tree.Items = append(tree.Items,
			api.Item{Kind: api.IIf, E: []int{len(tree.Nodes)}, Kids: []int{n + 1, n + 2}},
			api.Item{Kind: api.IConst, Name: api.Ref{Word: fmt.Sprint("n", i)}, E: []int{len(tree.Nodes) + 1}})
		tree.Nodes = append(tree.Nodes, api.Node{Op: api.XName, S: "a"}, api.Node{Op: api.XInt, N: uint64(i)})
	}
	tree.Items = append(tree.Items, api.Item{Kind: api.IRam, E: []int{len(tree.Nodes), len(tree.Nodes) + 1}})
	tree.Nodes = append(tree.Nodes, api.Node{Op: api.XName, S: "a"}, api.Node{Op: api.XName, S: "n1"})
	p, at, why := Unfold(tree)
	if why != api.OK || at != 0 || len(p.Rams) != 1 || p.Rams[0] != (api.Ram{At: 9, Size: 1}) {
		t.Errorf("R6: %+v, %d, %v", p, at, why)
	}
}

// TestManyParameters: P8.1: more parameters than anything else.
func TestManyParameters(t *testing.T) {
	t.Parallel()
	const count = 50000
	var names, numbers []string
	for i := range count {
		names = append(names, fmt.Sprint("p", i))
		numbers = append(numbers, fmt.Sprint(i%10))
	}
	text := fmt.Sprintf("group g ( %s ) { ram p%d size p49998 ; } use g ( %s ) ;", strings.Join(names, ","), count-1, strings.Join(numbers, ","))
	if p := unfolded(t, text); p.Rams[0].At != 9 || p.Rams[0].Size != 8 {
		t.Errorf("P8.1: %+v", p.Rams)
	}
}

package render

import (
	"bytes"
	"fmt"
	"slices"
	"strings"
	"testing"

	"bulkhead/api"
)

// refused holds that a tree is none, and what R3 says.
func refused(t *testing.T, what string, tree api.Tree) {
	t.Helper()
	if text, why := Print(tree); why != api.ErrForm || len(text) != 0 {
		t.Errorf("P7.1: %s: %.200q %v", what, text, why)
	}
}

func TestNoTree(t *testing.T) {
	refused(t, "nothing", api.Tree{})
	for _, word := range []string{"", "system", "9", "a.1", "a b", strings.Repeat("s", 33)} {
		refused(t, "the name "+word, api.Tree{Name: api.Ref{Word: word}})
	}
	s := api.Ref{Word: "s"}
	refused(t, "an index of the system's name", api.Tree{Name: api.Ref{Word: "s", Index: []int{0}}, Nodes: []api.Node{{Op: api.XInt}}})
	refused(t, "a node of nobody", api.Tree{Name: s, Nodes: []api.Node{{Op: api.XInt}}})
	refused(t, "an item of nobody", api.Tree{Name: s, Items: []api.Item{{Kind: api.IMaster, Name: s}}})
	for _, n := range []int{-1, 1, -1 << 63, 1<<63 - 1} {
		refused(t, fmt.Sprint("item ", n), api.Tree{Name: s, Items: []api.Item{{Kind: api.IMaster, Name: s}}, Top: []int{n}})
	}
	refused(t, "an item twice", api.Tree{Name: s, Items: []api.Item{{Kind: api.IMaster, Name: s}}, Top: []int{0, 0}})
	refused(t, "no items", api.Tree{Name: s, Top: []int{0}})
	if text, why := Print(api.Tree{Name: api.Ref{Word: strings.Repeat("s", 32)}}); why != api.OK || string(text) != "system "+strings.Repeat("s", 32)+" {\n}\n" {
		t.Errorf("P7.1: %q %v", text, why)
	}
}

// TestOffsets: P7.1: no offset is looked at.
func TestOffsets(t *testing.T) {
	for _, src := range everything {
		tree := read(t, src)
		want := printed(t, tree)
		if got := printed(t, unplaced(tree)); got != want {
			t.Errorf("P7.1: without offsets: %q, want %q", got, want)
		}
		tree.Pos, tree.Name.At = -1, 1<<62
		for i := range tree.Items {
			x := &tree.Items[i]
			x.Pos, x.Name.At, x.From.At, x.To.At, x.Over.At = -i, -5, 7, -9, 1<<40
			for k := range x.Params {
				x.Params[k].At = -k
			}
		}
		for i := range tree.Nodes {
			tree.Nodes[i].At = -3
		}
		if got := printed(t, tree); got != want {
			t.Errorf("P7.1: with other offsets: %q, want %q", got, want)
		}
	}
}

// the kinds of items as they stand, one of each.
func oneOfEach(t *testing.T) map[int]api.Tree {
	t.Helper()
	trees := map[int]api.Tree{}
	for _, src := range everything {
		tree := read(t, src)
		for _, x := range tree.Items {
			if _, ok := trees[x.Kind]; !ok {
				trees[x.Kind] = tree
			}
		}
	}
	if len(trees) != api.INeed {
		t.Fatalf("%d kinds", len(trees))
	}
	return trees
}

// TestBlocks: P7.1: what may stand in which block: every item of a policy moved
// into each block of another.
func TestBlocks(t *testing.T) {
	items := map[int]string{
		api.IConst: "const c = 1 ;", api.IAssert: "assert 1 ;", api.IEach: "each i in 0 .. 1 { }", api.IIf: "if 1 { } else { }",
		api.IGroup: "group g ( x ) { }", api.IUse: "use g ( 1 ) ;", api.IRam: "ram 0 size 1 ;", api.IDevice: "device d at 1 size 2 dma { }",
		api.IRegion: "region r size 1 ;", api.ISubject: "subject s cpu 0 { }", api.IChannel: "channel c from a to b reset ;", api.IIrq: "irq q from d to s vector 1 ;",
		api.IPlan: "plan p major 1 { }", api.IMaster: "master s ;", api.IStart: "start p ;", api.IMap: "map r at 1 ;", api.IFault: "fault stop ;",
		api.ILane: "cpu 0 { }", api.IRun: "run s 1 ;", api.IIdle: "idle 1 ;", api.INeed: "need s 1 every 2 ;",
	}
	inner := []int{api.IConst, api.IAssert, api.IEach, api.IIf}
	of := func(kinds ...int) []int { return append(slices.Clone(inner), kinds...) }
	groups := of(api.IUse, api.IRam, api.IDevice, api.IRegion, api.ISubject, api.IChannel, api.IIrq, api.IPlan, api.IMaster, api.IStart)
	for _, b := range []struct {
		src   string // with X, a const, where the item is laid
		kinds []int
	}{
		{"system s { X }", append(slices.Clone(groups), api.IGroup)},
		{"system s { each i in 0 .. 1 { X } }", groups},
		{"system s { if 1 { X } }", groups},
		{"system s { if 1 { } else { X } }", groups},
		{"system s { group g ( ) { X } }", groups},
		{"system s { group g ( ) { if 1 { } else { X } } }", groups},
		{"system s { device d at 0 size 1 dma { X } }", of(api.IMap)},
		{"system s { device d at 0 size 1 dma { each i in 0 .. 1 { X } } }", of(api.IMap)},
		{"system s { subject s cpu 0 { X } }", of(api.IMap, api.IFault)},
		{"system s { subject s cpu 0 { if 1 { each i in 0 .. 1 { X } } } }", of(api.IMap, api.IFault)},
		{"system s { plan p major 1 { X } }", of(api.ILane)},
		{"system s { plan p major 1 { if 1 { X } } }", of(api.ILane)},
		{"system s { plan p major 1 { cpu 0 { X } } }", of(api.IRun, api.IIdle)},
		{"system s { plan p major 1 { cpu 0 { if 1 { } else { X } } } }", of(api.IRun, api.IIdle)},
		{"system s { plan p major 1 { cpu 0 needs { X } } }", of(api.INeed)},
		{"system s { plan p major 1 { cpu 0 needs { each i in 0 .. 1 { X } } } }", of(api.INeed)},
	} {
		for kind, text := range items {
			tree := laidInto(t, b.src, kind, text)
			if slices.Contains(b.kinds, kind) {
				if got := printed(t, tree); told(read(t, got)) != told(tree) {
					t.Errorf("P7.3: %s in %s: %s", text, b.src, got)
				}
			} else {
				refused(t, text+" in "+b.src, tree)
			}
		}
	}
}

// laidInto makes the tree of a block with an item that may not stand there: the
// rows of the item, read where it may, are put in a const's place.
func laidInto(t *testing.T, src string, kind int, text string) api.Tree {
	t.Helper()
	homes := map[int]string{api.IMap: "system s { subject s cpu 0 { X } }", api.IFault: "system s { subject s cpu 0 { X } }", api.ILane: "system s { plan p major 1 { X } }", api.IRun: "system s { plan p major 1 { cpu 0 { X } } }", api.IIdle: "system s { plan p major 1 { cpu 0 { X } } }", api.INeed: "system s { plan p major 1 { cpu 0 needs { X } } }"}
	home, ok := homes[kind]
	if !ok {
		home = "system s { X }"
	}
	from := read(t, strings.Replace(home, "X", text, 1))
	x := from.Items[len(from.Items)-1]
	tree := read(t, strings.Replace(src, "X", "const c = 1 ;", 1))
	last := len(tree.Items) - 1
	if x.Kind != kind || tree.Items[last].Kind != api.IConst {
		t.Fatalf("%s in %s", text, src)
	}
	// the const's node was the last one; the item's own come in its place
	tree.Nodes = tree.Nodes[:len(tree.Nodes)-1]
	own := from.Nodes[len(from.Nodes)-len(x.E):]
	roots := make([]int, len(x.E))
	for i := range roots {
		roots[i] = len(tree.Nodes) + i
	}
	x.E = roots
	tree.Items[last] = x
	tree.Nodes = append(tree.Nodes, own...)
	return tree
}

// TestKinds: P7.1: kinds that are none.
func TestKinds(t *testing.T) {
	for _, kind := range []int{0, -1, api.INeed + 1, -1 << 63, 1<<63 - 1} {
		for _, tree := range oneOfEach(t) {
			items := slices.Clone(tree.Items)
			items[len(items)-1].Kind = kind
			tree.Items = items
			refused(t, fmt.Sprint("kind ", kind), tree)
		}
	}
}

// TestFlagsAndHow: P7.1: flags of other kinds, and effects that are none.
func TestFlagsAndHow(t *testing.T) {
	for _, src := range everything {
		tree := read(t, src)
		for i := range tree.Items {
			for bit := range 64 {
				tree.Items[i].Flags ^= 1 << bit
				verdict(t, tree, fmt.Sprint(src, " bit ", bit))
				tree.Items[i].Flags ^= 1 << bit
			}
			was := tree.Items[i].How
			for how := -1; how < 7; how++ {
				tree.Items[i].How = how
				verdict(t, tree, fmt.Sprint(src, " how ", how))
			}
			tree.Items[i].How = was
		}
	}
}

// swapped tells lists with two numbers in each other's place.
func swapped(list []int, a, b int) []int {
	out := slices.Clone(list)
	for i, n := range list {
		switch n {
		case a:
			out[i] = b
		case b:
			out[i] = a
		}
	}
	return out
}

// TestOrder: P7.1: two rows in each other's place, and all numbers with them, are
// no text's tree: it has one order.
func TestOrder(t *testing.T) {
	for _, src := range everything {
		tree := read(t, src)
		for b := range tree.Items {
			for a := range b {
				other := tree
				other.Items = slices.Clone(tree.Items)
				other.Items[a], other.Items[b] = tree.Items[b], tree.Items[a]
				other.Top = swapped(tree.Top, a, b)
				for i, x := range other.Items {
					other.Items[i].Kids, other.Items[i].Else = swapped(x.Kids, a, b), swapped(x.Else, a, b)
				}
				if told(other) != told(tree) {
					refused(t, fmt.Sprint(src, " items ", a, b), other)
				}
			}
		}
		for b := range tree.Nodes {
			for a := range b {
				other := tree
				other.Nodes = slices.Clone(tree.Nodes)
				other.Nodes[a], other.Nodes[b] = tree.Nodes[b], tree.Nodes[a]
				for i, n := range other.Nodes {
					other.Nodes[i].Kids = swapped(n.Kids, a, b)
				}
				other.Items = slices.Clone(tree.Items)
				for i := range other.Items {
					x := &other.Items[i]
					x.E = swapped(x.E, a, b)
					for _, ref := range []*api.Ref{&x.Name, &x.From, &x.To, &x.Over} {
						ref.Index = swapped(ref.Index, a, b)
					}
				}
				if told(other) != told(tree) {
					refused(t, fmt.Sprint(src, " nodes ", a, b), other)
				}
			}
		}
	}
}

// TestKidsTurned: P7.1, P7.2: an operator's parts in the other order are an
// expression, but no text's.
func TestKidsTurned(t *testing.T) {
	tree := read(t, "system s { assert 1 - 2 ; }")
	tree.Nodes[2].Kids = []int{1, 0}
	refused(t, "parts that fall", tree)
	if got, why := Expr(tree, 2); why != api.OK || string(got) != "2 - 1" {
		t.Errorf("P7.2: %q %v", got, why)
	}
}

// TestMemory: R2: what is handed in stays as it was, its spare room too, and
// answers are their own.
func TestMemory(t *testing.T) {
	spare := func(list []int) []int { return append(list, -11, -12, -13)[:len(list)] }
	for _, src := range everything {
		tree := read(t, src)
		tree.Top = spare(tree.Top)
		for i := range tree.Items {
			x := &tree.Items[i]
			x.E, x.Kids, x.Else, x.Name.Index = spare(x.E), spare(x.Kids), spare(x.Else), spare(x.Name.Index)
		}
		first, second := []byte(printed(t, tree)), []byte(printed(t, tree))
		want := bytes.Clone(second)
		clear(first[:cap(first)])
		if !bytes.Equal(second, want) || printed(t, tree) != string(want) {
			t.Errorf("R2: %q: two answers share memory", src)
		}
		for _, x := range tree.Items {
			for _, list := range [][]int{tree.Top, x.E, x.Kids, x.Else, x.Name.Index} {
				if tail := list[:len(list)+3][len(list):]; !slices.Equal(tail, []int{-11, -12, -13}) {
					t.Errorf("R2: %q: spare room was changed: %v", src, tail)
				}
			}
		}
	}
}

// TestUnused: P7.1: what a kind does not use is zero, each field by itself and
// each two lists together.
func TestUnused(t *testing.T) {
	s := api.Ref{Word: "s"}
	fields := map[string]func(x *api.Item){
		"From":   func(x *api.Item) { x.From = s },
		"To":     func(x *api.Item) { x.To = s },
		"Over":   func(x *api.Item) { x.Over = s },
		"index":  func(x *api.Item) { x.Over.Index = []int{0} },
		"Text":   func(x *api.Item) { x.Text = "a" },
		"Params": func(x *api.Item) { x.Params = []api.Ref{s} },
		"E":      func(x *api.Item) { x.E = []int{0} },
		"Kids":   func(x *api.Item) { x.Kids = []int{1} },
		"Else":   func(x *api.Item) { x.Else = []int{1} },
	}
	for a, first := range fields {
		for b, second := range fields {
			x := api.Item{Kind: api.IMaster, Name: s}
			first(&x)
			second(&x)
			refused(t, a+", "+b, api.Tree{Name: s, Top: []int{0}, Items: []api.Item{x}})
		}
	}
}

package syntax

import (
	"bytes"
	"fmt"
	"strings"
	"testing"

	"bulkhead/api"
)

// everything is all of the grammar, in small texts.
var everything = []string{
	" # nothing\n\tsystem s { } # the end",
	"system s { const n = 1 + 2 * 3 ; assert n == 7 ; }",
	"system s { each i in 0 .. n { each j in i .. n { master m [ i ] [ j ] ; } ram i size 4K ; } }",
	"system s { if n < 2 { start a ; } else { if 1 { } use g ( ) ; } if 1 { } assert 2 ; }",
	"system s { group g ( ) { } group h ( x ) { use g ( ) ; if 1 { } } group k ( x , y , z ) { plan p [ x ] major y { } } }",
	"system s { use g ( ) ; use h ( 1 ) ; use k ( 1 | 2 ^ 3 & 4 << 5 >> 6 - 7 / 8 % 9 , ( 1 != 2 ) , a >= b ) ; }",
	"system s { ram 0x1000 size ( 1 <= 2 ) > ( 3 ) ; ram 1 size 2 ; }",
	"system s { device d at 1 size 2 ; device d [ 1 ] at 1 size 2 dma { } }",
	"system s { device d at 1 size 2 dma { map r at 1 ; map r at 1 write ; map r at 1 exec ; map r [ 1 ] at 1 write exec ; } }",
	"system s { device d at 1 size 2 dma { const c = 1 ; assert 1 ; each i in 1 .. 2 { map r at 3 ; } if 1 { map r at 1 ; } else { map r at 2 ; } } }",
	"system s { region r size 1 ; region r size 1 at 2 ; region r size 1 big ; region r size 1 wx ; region r size 1 fill 7 ; }",
	"system s { region r [ 1 ] size 1 fill \"text\" ; region r size 1 at 2 big wx fill 1 + 1 ; }",
	"system s { subject s cpu 0 { } subject s [ 0 ] cpu 1 stopped { map r at 1 write exec ; } }",
	"system s { subject s cpu 0 { fault stop ; fault reset ; fault tell s [ 1 ] vector 3 ; } }",
	"system s { subject s cpu 0 { const c = 1 ; assert 1 ; each i in 1 .. 2 { fault stop ; } if 1 { map r at 0 ; } else { fault stop ; } } }",
	"system s { channel c from a to b vector 1 ; channel c from a to b reset ; channel c from a to b stop ; }",
	"system s { channel c [ 1 ] from a [ 1 ] to b [ 1 ] over r [ 1 ] start ; channel c from a to b over r vector 1 ; }",
	"system s { irq q from d to s vector 1 ; irq q [ 1 ] from d [ 1 ] to s [ 1 ] vector 1 masked ; }",
	"system s { plan p major 9 { cpu 0 { run s 1 ; run s [ 1 ] ( 2 ) ; idle 3 ; } } }",
	"system s { plan p major 9 { cpu 0 { const c = 1 ; assert 1 ; each i in 1 .. 2 { idle 1 ; } if 1 { run s 1 ; } else { idle 1 ; } } } }",
	"system s { plan p major 9 { cpu 1 needs { need s 1 every 2 ; need s [ 1 ] 1 every 2 ; } } }",
	"system s { plan p major 9 { cpu 1 needs { const c = 1 ; assert 1 ; each i in 1 .. 2 { need s 1 every 2 ; } if 1 { } else { } } } }",
	"system s { plan p major 9 { const c = 1 ; assert 1 ; each i in 1 .. 2 { cpu i { } } if 1 { cpu 1 needs { } } else { } } }",
	"system s { master s [ 0 ] ; start p ; }",
}

// read reads a text that must be one.
func read(t *testing.T, src string) api.Tree {
	t.Helper()
	tree, place, why := Parse([]byte(src))
	if why != api.OK || place != (api.Place{}) {
		t.Fatalf("P6.1: %.200q: %v %v", src, place, why)
	}
	return tree
}

// item holds the only item of a policy's own block against what it must be;
// its offsets count from the item's keyword on.
func item(t *testing.T, src string, want api.Item) {
	t.Helper()
	const ahead = "system s { "
	tree := read(t, ahead+src+" }")
	shifted(&want, len(ahead))
	if got := fmt.Sprintf("%+v", tree.Items[0]); got != fmt.Sprintf("%+v", want) {
		t.Errorf("P6.3: %s:\n%s, want\n%+v", src, got, want)
	}
	if len(tree.Top) != 1 || tree.Top[0] != 0 {
		t.Errorf("P6.3: %s: Top %v", src, tree.Top)
	}
}

func ref(word string, at int, index ...int) api.Ref { return api.Ref{Word: word, At: at, Index: index} }

func TestSystem(t *testing.T) {
	if tree := read(t, "system s { }"); !like(tree, api.Tree{Name: ref("s", 7)}) {
		t.Errorf("P6.3: %+v", tree)
	}
	if tree := read(t, "\n# x\n  system\tsystems{}#"); !like(tree, api.Tree{Pos: 7, Name: ref("systems", 14)}) {
		t.Errorf("P6.3: %+v", tree)
	}
}

func TestItemsOfEveryBlock(t *testing.T) {
	item(t, "const a = 1 ;", api.Item{Kind: api.IConst, Name: ref("a", 6), E: []int{0}})
	item(t, "assert 1 == 2 ;", api.Item{Kind: api.IAssert, E: []int{2}})
	item(t, "each i in 1 .. n + 1 { }", api.Item{Kind: api.IEach, Name: ref("i", 5), E: []int{0, 3}})
	item(t, "each i in 1 .. 2 { assert 1 ; assert 2 ; }", api.Item{Kind: api.IEach, Name: ref("i", 5), E: []int{0, 1}, Kids: []int{1, 2}})
	item(t, "if 1 { assert 1 ; }", api.Item{Kind: api.IIf, E: []int{0}, Kids: []int{1}})
	item(t, "if 1 { } else { }", api.Item{Kind: api.IIf, E: []int{0}, Flags: api.FElse})
	item(t, "if 1 { } else { assert 1 ; }", api.Item{Kind: api.IIf, E: []int{0}, Flags: api.FElse, Else: []int{1}})
	item(t, "if 1 { if 2 { } else { assert 3 ; } } else { assert 4 ; }", api.Item{Kind: api.IIf, E: []int{0}, Flags: api.FElse, Kids: []int{1}, Else: []int{3}})
}

func TestItemsOfGroups(t *testing.T) {
	item(t, "group g ( ) { }", api.Item{Kind: api.IGroup, Name: ref("g", 6)})
	item(t, "group g ( x ) { use h ( ) ; }", api.Item{Kind: api.IGroup, Name: ref("g", 6), Params: []api.Ref{ref("x", 10)}, Kids: []int{1}})
	item(t, "group g ( x , x ) { }", api.Item{Kind: api.IGroup, Name: ref("g", 6), Params: []api.Ref{ref("x", 10), ref("x", 14)}})
	item(t, "use g ( ) ;", api.Item{Kind: api.IUse, Name: ref("g", 4)})
	item(t, "use g ( 1 , 2 * 3 , a ) ;", api.Item{Kind: api.IUse, Name: ref("g", 4), E: []int{0, 3, 4}})
}

func TestItemsOfMachines(t *testing.T) {
	item(t, "ram 1 + 2 size 3 ;", api.Item{Kind: api.IRam, E: []int{2, 3}})
	item(t, "device d [ 1 ] at 2 size 3 ;", api.Item{Kind: api.IDevice, Name: ref("d", 7, 0), E: []int{1, 2}})
	item(t, "device d at 2 size 3 dma { }", api.Item{Kind: api.IDevice, Name: ref("d", 7), E: []int{0, 1}, Flags: api.FDma})
	item(t, "device d at 2 size 3 dma { map r at 1 ; }", api.Item{Kind: api.IDevice, Name: ref("d", 7), E: []int{0, 1}, Flags: api.FDma, Kids: []int{1}})
	region := api.Item{Kind: api.IRegion, Name: ref("r", 7), E: []int{0}}
	for _, c := range []struct {
		src, text string
		flags     int
		roots     []int
	}{
		{"", "", 0, []int{0}},
		{"at 2", "", api.FAt, []int{0, 1}},
		{"big", "", api.FBig, []int{0}},
		{"wx", "", api.FWx, []int{0}},
		{"fill 3", "", api.FFill, []int{0, 1}},
		{`fill ""`, "", api.FText, []int{0}},
		{`fill "a\n\xff\""`, "a\n\xff\"", api.FText, []int{0}},
		{"big wx", "", api.FBig | api.FWx, []int{0}},
		{"at 2 fill a", "", api.FAt | api.FFill, []int{0, 1, 2}},
		{"at 2 + 2 big wx fill 3 + 3", "", api.FAt | api.FBig | api.FWx | api.FFill, []int{0, 3, 6}},
	} {
		region.E, region.Text, region.Flags = c.roots, c.text, c.flags
		item(t, "region r size 1 "+c.src+" ;", region)
	}
}

func TestItemsOfSubjects(t *testing.T) {
	item(t, "subject s [ 1 ] [ 2 ] cpu 3 { }", api.Item{Kind: api.ISubject, Name: ref("s", 8, 0, 1), E: []int{2}})
	item(t, "subject s cpu 3 stopped { fault stop ; }", api.Item{Kind: api.ISubject, Name: ref("s", 8), E: []int{0}, Flags: api.FStopped, Kids: []int{1}})
	channel := api.Item{Kind: api.IChannel, Name: ref("c", 8), From: ref("a", 15), To: ref("b", 20)}
	for how, word := range []string{"vector 1", "reset", "stop", "start"} {
		channel.How, channel.E = api.ByVector+how, nil
		if how == 0 {
			channel.E = []int{0}
		}
		channel.Flags, channel.Over = 0, api.Ref{}
		item(t, "channel c from a to b "+word+" ;", channel)
		channel.Flags, channel.Over = api.FOver, ref("r", 27)
		item(t, "channel c from a to b over r "+word+" ;", channel)
	}
	item(t, "channel c [ 1 ] from a [ 2 ] to b [ 3 ] over r [ 4 ] vector 5 ;", api.Item{Kind: api.IChannel, Name: ref("c", 8, 0), From: ref("a", 21, 1), To: ref("b", 32, 2), Over: ref("r", 45, 3), Flags: api.FOver, How: api.ByVector, E: []int{4}})
	item(t, "irq q from d to s vector 1 ;", api.Item{Kind: api.IIrq, Name: ref("q", 4), From: ref("d", 11), To: ref("s", 16), E: []int{0}})
	item(t, "irq q from d to s vector 1 masked ;", api.Item{Kind: api.IIrq, Name: ref("q", 4), From: ref("d", 11), To: ref("s", 16), E: []int{0}, Flags: api.FMasked})
	item(t, "plan p major 1 { cpu 0 { } }", api.Item{Kind: api.IPlan, Name: ref("p", 5), E: []int{0}, Kids: []int{1}})
	item(t, "master s [ 1 ] ;", api.Item{Kind: api.IMaster, Name: ref("s", 7, 0)})
	item(t, "start p ;", api.Item{Kind: api.IStart, Name: ref("p", 6)})
}

// TestItemsWithin: P6.3 of the items that stand in the blocks of others.
func TestItemsWithin(t *testing.T) {
	for _, c := range []struct {
		ahead, src, behind string
		want               api.Item
	}{
		{"subject s cpu 0 { ", "map r at 1 ;", " }", api.Item{Kind: api.IMap, Name: ref("r", 4), E: []int{1}}},
		{"subject s cpu 0 { ", "map r at 1 write ;", " }", api.Item{Kind: api.IMap, Name: ref("r", 4), E: []int{1}, Flags: api.FWrite}},
		{"subject s cpu 0 { ", "map r at 1 exec ;", " }", api.Item{Kind: api.IMap, Name: ref("r", 4), E: []int{1}, Flags: api.FExec}},
		{"device d at 0 size 1 dma { ", "map r [ 2 ] at 3 write exec ;", " }", api.Item{Kind: api.IMap, Name: ref("r", 4, 2), E: []int{3}, Flags: api.FWrite | api.FExec}},
		{"subject s cpu 0 { ", "fault stop ;", " }", api.Item{Kind: api.IFault, How: api.ByStop}},
		{"subject s cpu 0 { ", "fault reset ;", " }", api.Item{Kind: api.IFault, How: api.ByReset}},
		{"subject s cpu 0 { ", "fault tell t vector 5 ;", " }", api.Item{Kind: api.IFault, How: api.ByVector, To: ref("t", 11), E: []int{1}}},
		{"plan p major 1 { ", "cpu 2 { run s 1 ; }", " }", api.Item{Kind: api.ILane, E: []int{1}, Kids: []int{2}}},
		{"plan p major 1 { ", "cpu 2 needs { need s 1 every 2 ; }", " }", api.Item{Kind: api.ILane, E: []int{1}, Flags: api.FNeeds, Kids: []int{2}}},
		{"each i in 0 .. 1 { ", "assert i ;", " }", api.Item{Kind: api.IAssert, E: []int{2}}},
	} {
		ahead := "system s { " + c.ahead
		tree := read(t, ahead+c.src+c.behind+" }")
		shifted(&c.want, len(ahead))
		if got := fmt.Sprintf("%+v", tree.Items[1]); got != fmt.Sprintf("%+v", c.want) {
			t.Errorf("P6.3: %s:\n%s, want\n%+v", c.src, got, c.want)
		}
	}
	tree := read(t, "system s { plan p major 9 { cpu 0 { run s 1 ; idle 2 + 2 ; } cpu 1 needs { need t 1 every 3 ; } } }")
	for n, want := range map[int]api.Item{
		2: {Kind: api.IRun, Pos: 36, Name: ref("s", 40), E: []int{2}},
		3: {Kind: api.IIdle, Pos: 46, E: []int{5}},
		5: {Kind: api.INeed, Pos: 75, Name: ref("t", 80), E: []int{7, 8}},
	} {
		if fmt.Sprintf("%+v", tree.Items[n]) != fmt.Sprintf("%+v", want) {
			t.Errorf("P6.3: item %d: %+v, want %+v", n, tree.Items[n], want)
		}
	}
}

// shifted moves an item's offsets.
func shifted(x *api.Item, by int) {
	x.Pos += by
	for _, r := range []*api.Ref{&x.Name, &x.From, &x.To, &x.Over} {
		if r.Word != "" {
			r.At += by
		}
	}
	for i := range x.Params {
		x.Params[i].At += by
	}
}

// TestOrder: P6.3: the order of the items and of all nodes, indices among them.
func TestOrder(t *testing.T) {
	tree := read(t, "system s { region a[1][2 + 3] size 4 ; if 5 { assert 6 ; each i in 7 .. 8 { assert 9 ; } } else { assert 10 ; } assert 11 ; }")
	if fmt.Sprint(tree.Top) != "[0 1 6]" || fmt.Sprint(tree.Items[1].Kids) != "[2 3]" || fmt.Sprint(tree.Items[1].Else) != "[5]" || fmt.Sprint(tree.Items[3].Kids) != "[4]" {
		t.Errorf("P6.3: %+v", tree)
	}
	last := uint64(0)
	for i, n := range tree.Nodes {
		if n.Op == api.XInt {
			if n.N != last+1 {
				t.Errorf("P6.3: node %d: %+v", i, n)
			}
			last = n.N
		}
	}
	for i := 1; i < len(tree.Items); i++ {
		if tree.Items[i].Pos <= tree.Items[i-1].Pos {
			t.Errorf("P6.3: item %d: %+v", i, tree.Items[i])
		}
	}
	if last != 11 || len(tree.Nodes) != 12 || fmt.Sprint(tree.Nodes[3]) != fmt.Sprint(api.Node{Op: api.TAdd, Kids: []int{1, 2}, At: 25}) {
		t.Errorf("P6.3: %+v", tree.Nodes)
	}
}

// TestRanks: P6.3: which parts belong together, spelt with all parentheses.
func TestRanks(t *testing.T) {
	for src, want := range map[string]string{
		"a":                             "a",
		"((a))":                         "a",
		"a+b*c":                         "(a+(b*c))",
		"(a+b)*c":                       "((a+b)*c)",
		"a-b-c":                         "((a-b)-c)",
		"a-(b-c)":                       "(a-(b-c))",
		"a/b*c%d":                       "(((a/b)*c)%d)",
		"a<<b>>c":                       "((a<<b)>>c)",
		"a<<b+c":                        "(a<<(b+c))",
		"a&b<<c":                        "(a&(b<<c))",
		"a^b&c":                         "(a^(b&c))",
		"a|b^c":                         "(a|(b^c))",
		"a==b|c":                        "(a==(b|c))",
		"a|b<c|d":                       "((a|b)<(c|d))",
		"(a<b)<c":                       "((a<b)<c)",
		"a!=(b>=c)":                     "(a!=(b>=c))",
		"a|b|c":                         "((a|b)|c)",
		"a^b^c":                         "((a^b)^c)",
		"a&b&c":                         "((a&b)&c)",
		"1+2-3":                         "((1+2)-3)",
		"a*b+c<<d&e^f|g>h|i^j&k>>l-m/n": "(((((((a*b)+c)<<d)&e)^f)|g)>(h|(i^(j&(k>>(l-(m/n)))))))",
	} {
		text := "system s { assert " + src + " ; }"
		tree := read(t, text)
		var spell func(n int) string
		spell = func(n int) string {
			x := tree.Nodes[n]
			switch x.Op {
			case api.XInt:
				return fmt.Sprint(x.N)
			case api.XName:
				return x.S
			}
			sign := strings.TrimRight(text[x.At:x.At+2], "abcdefghijklmnopqrstuvwxyz0123456789(")
			return "(" + spell(x.Kids[0]) + sign + spell(x.Kids[1]) + ")"
		}
		if root := tree.Items[0].E[0]; spell(root) != want || root != len(tree.Nodes)-1 {
			t.Errorf("P6.3: %s: %s, want %s", src, spell(root), want)
		}
	}
}

// TestSignsOfNodes: P6.3: an operator's node has its sign's kind and byte.
func TestSignsOfNodes(t *testing.T) {
	for i, sign := range strings.Fields("== != < <= > >= | ^ & << >> + - * / %") {
		tree := read(t, "system s { assert a "+sign+" b ; }")
		if n := tree.Nodes[2]; fmt.Sprint(n) != fmt.Sprint(api.Node{Op: api.TEqual + i, Kids: []int{0, 1}, At: 20}) {
			t.Errorf("P6.3: %s: %+v", sign, n)
		}
	}
}

// TestOwnMemory: R2: no two lists of an answer share memory, nor do two answers.
func TestOwnMemory(t *testing.T) {
	src := []byte("system s { group g ( x , y , z ) { use g ( 1 , 2 , 3 ) ; use g ( 4 , 5 , 6 ) ; use g ( ) ; } region r[1][2][3] size 4 at 5 fill 6 ; if 1 { assert 1 ; assert 2 ; assert 3 ; } else { assert 4 ; assert 5 ; assert 6 ; } channel c[1][2][3] from a[1][2][3] to b[1][2][3] over r[1][2][3] vector 1 ; }")
	whole := append(bytes.Clone(src), "tail"...)
	tree, _, _ := Parse(whole[:len(src)])
	second, _, _ := Parse(src)
	if string(whole[len(src):]) != "tail" {
		t.Errorf("R2: the spare room was changed")
	}
	want := fmt.Sprintf("%+v", tree)
	_, _ = append(tree.Items, api.Item{}), append(tree.Nodes, api.Node{})
	for _, x := range tree.Items {
		_ = append(x.Params, api.Ref{Word: "spoilt"})
	}
	if got := fmt.Sprintf("%+v", tree); got != want {
		t.Errorf("R2: lists share memory: %s, want %s", got, want)
	}
	lists := listsOf(tree)
	for i, l := range lists {
		for j := range cap(l) {
			l[:cap(l)][j] = -1 - i
		}
	}
	for i, l := range lists {
		for j := range cap(l) {
			if l[:cap(l)][j] != -1-i {
				t.Errorf("R2: list %d shares memory with list %d", i, -1-l[:cap(l)][j])
			}
		}
	}
	clear(whole)
	if got := fmt.Sprintf("%+v", second); got != want || tree.Name.Word != "s" || tree.Items[0].Params[0].Word != "x" {
		t.Errorf("R2: %s, want %s", got, want)
	}
}

// listsOf tells all of a tree's lists of numbers.
func listsOf(tree api.Tree) [][]int {
	lists := [][]int{tree.Top, tree.Name.Index}
	for _, x := range tree.Items {
		lists = append(lists, x.E, x.Kids, x.Else, x.Name.Index, x.From.Index, x.To.Index, x.Over.Index)
		for _, p := range x.Params {
			lists = append(lists, p.Index)
		}
	}
	for _, n := range tree.Nodes {
		lists = append(lists, n.Kids)
	}
	return lists
}

package unfold

import (
	"cmp"
	"fmt"
	"reflect"
	"slices"
	"strings"
	"testing"

	"bulkhead/api"
	"bulkhead/syntax"
)

// TestFlat: P8.3: every kind of declaration, with its offset.
func TestFlat(t *testing.T) {
	t.Parallel()
	const src = `
system whole {
  start p[1];
  ram 1 size 2;
  device d at 3 size 4 dma { map r[0] at 5 write; if 1 { map q at 6 exec; } map r[1] at 7 write exec; map r[2] at 8; }
  device e[1] at 9 size 10;
  device f at 11 size 12 dma { }
  region r[0] size 13 at 14 big wx fill "a\n";
  region q size 15 fill 16;
  region o size 17 at 0;
  region n size 18 big fill 0;
  region m size 19 wx fill "";
  subject a cpu 20 stopped { fault tell b[1] vector 21; map r[0] at 22 write; fault stop; map e[1] at 23; fault reset; }
  subject b[1] cpu 24 { }
  channel c from a to b[1] over q vector 25;
  channel h[1] from b[1] to a reset;
  channel k from b[1] to a over o stop;
  channel l from b[1] to a start;
  irq i from d to a vector 26 masked;
  irq j[9] from e[1] to b[1] vector 27;
  plan p[1] major 28 { cpu 29 { run a 30; idle 31; run b[1] 32; } cpu 33 needs { need b[1] 34 every 35; } cpu 36 { } cpu 37 needs { } }
  plan o major 38 { }
  master a;
  ram 39 size 40;
  master b[1];
  start o;
}`
	pos := func(text string) int {
		if strings.Count(src, text) != 1 {
			t.Fatalf("%q stands %d times", text, strings.Count(src, text))
		}
		return strings.Index(src, text)
	}
	want := api.Policy{
		Pos:  1,
		Name: "whole",
		Rams: []api.Ram{{Pos: pos("ram 1 "), At: 1, Size: 2}, {Pos: pos("ram 39"), At: 39, Size: 40}},
		Devices: []api.Device{
			{Pos: pos("device d"), Name: "d", At: 3, Size: 4, Maps: []api.Map{
				{Pos: pos("map r[0] at 5"), Of: "r.0", At: 5, Write: true},
				{Pos: pos("map q"), Of: "q", At: 6, Exec: true},
				{Pos: pos("map r[1]"), Of: "r.1", At: 7, Write: true, Exec: true},
				{Pos: pos("map r[2]"), Of: "r.2", At: 8},
			}},
			{Pos: pos("device e"), Name: "e.1", At: 9, Size: 10},
			{Pos: pos("device f"), Name: "f", At: 11, Size: 12},
		},
		Regions: []api.Region{
			{Pos: pos("region r"), Name: "r.0", Size: 13, Fixed: true, At: 14, Big: true, Wx: true, Texted: true, Text: "a\n"},
			{Pos: pos("region q"), Name: "q", Size: 15, Fill: 16},
			{Pos: pos("region o"), Name: "o", Size: 17, Fixed: true},
			{Pos: pos("region n"), Name: "n", Size: 18, Big: true},
			{Pos: pos("region m"), Name: "m", Size: 19, Wx: true, Texted: true},
		},
		Subjects: []api.Subject{
			{Pos: pos("subject a"), Name: "a", CPU: 20, Stopped: true,
				Maps: []api.Map{{Pos: pos("map r[0] at 22"), Of: "r.0", At: 22, Write: true}, {Pos: pos("map e"), Of: "e.1", At: 23}},
				Rules: []api.Rule{
					{Pos: pos("fault tell"), How: api.ByVector, To: "b.1", Vector: 21},
					{Pos: pos("fault stop"), How: api.ByStop},
					{Pos: pos("fault reset"), How: api.ByReset},
				}},
			{Pos: pos("subject b"), Name: "b.1", CPU: 24},
		},
		Channels: []api.Channel{
			{Pos: pos("channel c"), Name: "c", From: "a", To: "b.1", Shared: true, Over: "q", How: api.ByVector, Vector: 25},
			{Pos: pos("channel h"), Name: "h.1", From: "b.1", To: "a", How: api.ByReset},
			{Pos: pos("channel k"), Name: "k", From: "b.1", To: "a", Shared: true, Over: "o", How: api.ByStop},
			{Pos: pos("channel l"), Name: "l", From: "b.1", To: "a", How: api.ByStart},
		},
		Irqs: []api.IrqLine{
			{Pos: pos("irq i"), Name: "i", From: "d", To: "a", Vector: 26, Masked: true},
			{Pos: pos("irq j"), Name: "j.9", From: "e.1", To: "b.1", Vector: 27},
		},
		Plans: []api.Plan{
			{Pos: pos("plan p"), Name: "p.1", Major: 28, Lanes: []api.Lane{
				{Pos: pos("cpu 29"), CPU: 29, Runs: []api.Run{{Pos: pos("run a"), Subject: "a", Budget: 30}, {Pos: pos("idle 31"), Budget: 31}, {Pos: pos("run b"), Subject: "b.1", Budget: 32}}},
				{Pos: pos("cpu 33"), CPU: 33, Needs: true, Runs: []api.Run{{Pos: pos("need b"), Subject: "b.1", Budget: 34, Period: 35}}},
				{Pos: pos("cpu 36"), CPU: 36},
				{Pos: pos("cpu 37"), CPU: 37, Needs: true},
			}},
			{Pos: pos("plan o"), Name: "o", Major: 38},
		},
		Masters: []api.Pick{{Pos: pos("master a"), Name: "a"}, {Pos: pos("master b"), Name: "b.1"}},
		Starts:  []api.Pick{{Pos: pos("start p"), Name: "p.1"}, {Pos: pos("start o"), Name: "o"}},
	}
	p, at, why := Unfold(read(t, src))
	if why != api.OK || at != 0 || told(p) != told(want) {
		t.Errorf("P8.3: %v at %d:\n%s\nwant\n%s", why, at, told(p), told(want))
	}
}

// TestOffsetsAreNotLookedAt: P8.1, P8.3: offsets are told as the tree has them,
// whatever they are.
func TestOffsetsAreNotLookedAt(t *testing.T) {
	t.Parallel()
	tree := read(t, system("subject a cpu 0 { map r at 1 ; } assert 1 ; const x = 1 / 0 ;"))
	tree.Pos, tree.Items[0].Pos, tree.Items[1].Pos, tree.Nodes[5].At = -9, 1<<40, -1, -7
	if _, at, why := Unfold(tree); at != -7 || why != api.ErrZero {
		t.Errorf("P8.1: %d, %v", at, why)
	}
	tree = read(t, system("subject a cpu 0 { map r at 1 ; }"))
	tree.Pos, tree.Items[0].Pos, tree.Items[1].Pos = -9, 1<<40, -1
	p, at, why := Unfold(tree)
	if why != api.OK || at != 0 || p.Pos != -9 || p.Subjects[0].Pos != 1<<40 || p.Subjects[0].Maps[0].Pos != -1 {
		t.Errorf("P8.3: %+v, %d, %v", p, at, why)
	}
}

// TestExamples: the chapter's examples.
func TestExamples(t *testing.T) {
	t.Parallel()
	p := unfolded(t, "const n = 2 ; each i in 0 .. n { region r[i] size 4K * (i + 1) ; }")
	if len(p.Regions) != 2 || p.Regions[0].Name != "r.0" || p.Regions[0].Size != 4096 || p.Regions[1].Name != "r.1" || p.Regions[1].Size != 8192 {
		t.Errorf("Example 1: %+v", p)
	}
	if p := unfolded(t, "each i in 3 .. 3 { ram q size 1 ; }"); len(p.Rams) != 0 {
		t.Errorf("Example 2: %+v", p)
	}
	refused(t, "Example 3", "@each i in 0 .. 1 << 40 { }", api.ErrMany)
	refused(t, "Example 4", "const a = 0 @- 1 ;", api.ErrOver)
	refused(t, "Example 5", "const a = 1 ; if a == 1 { const b = 2 ; } assert @b ;", api.ErrName)
	if p := unfolded(t, "group g ( x ) { region r[x] size x ; } use g ( 4K ) ;"); len(p.Regions) != 1 || p.Regions[0].Name != "r.4096" || p.Regions[0].Size != 4096 {
		t.Errorf("Example 6: %+v", p)
	}
	refused(t, "Example 6", "use @h ( ) ;", api.ErrName)
	refused(t, "Example 6", "group g ( x ) { } use @g ( ) ;", api.ErrCount)
}

// TestRounds: P8.1, P8.3: rounds, conditions and groups bring declarations in
// the order in which they are gone through, and parts to their own.
func TestRounds(t *testing.T) {
	t.Parallel()
	p := unfolded(t, `
		const n = 3;
		group pair(x, y) {
			const sum = x + y;
			subject u[x][y] cpu sum {
				each k in x .. y { if k % 2 { map r[k] at k; } else { fault tell u[k] vector k; } }
			}
			if sum > 3 { ram x size y; } else { ram y size sum; }
		}
		group all(x) { each y in 0 .. n { use pair(x, y * 2); } }
		each i in 1 .. n { use all(i); plan p[i] major i { each c in 0 .. i { cpu c { each s in 0 .. c { run u[i][s] s; } idle c; } } } }`)
	var got []string
	for _, s := range p.Subjects {
		text := fmt.Sprint(s.Name, " ", s.CPU)
		for _, m := range s.Maps {
			text += fmt.Sprint(" ", m.Of, "@", m.At)
		}
		for _, r := range s.Rules {
			text += fmt.Sprint(" ", r.To, "!", r.Vector)
		}
		got = append(got, text)
	}
	for _, r := range p.Rams {
		got = append(got, fmt.Sprint(r.At, "+", r.Size))
	}
	for _, plan := range p.Plans {
		text := plan.Name
		for _, l := range plan.Lanes {
			text += fmt.Sprint(" ", l.CPU, ":")
			for _, r := range l.Runs {
				text += fmt.Sprint(r.Subject, "=", r.Budget, ",")
			}
		}
		got = append(got, text)
	}
	want := []string{
		"u.1.0 1", "u.1.2 3 r.1@1", "u.1.4 5 r.1@1 r.3@3 u.2!2", "u.2.0 2", "u.2.2 4", "u.2.4 6 r.3@3 u.2!2",
		"0+1", "2+3", "1+4", "0+2", "2+2", "2+4",
		"p.1 0:=0,", "p.2 0:=0, 1:u.2.0=0,=1,",
	}
	if !reflect.DeepEqual(got, want) {
		t.Errorf("P8.3: %q, want %q", got, want)
	}
}

// TestMemory: R2: what is handed in is not changed, its spare room neither; no
// two lists of an answer share memory, nor do two answers, nor an answer and
// what was handed in.
func TestMemory(t *testing.T) {
	t.Parallel()
	const src = `system s { each i in 0 .. 3 { ram i size 1; device d[i] at 0 size 0 dma { each j in 0 .. 3 { map r[j] at j; } } region r[i] size i; subject u[i] cpu i { each j in 0 .. 3 { map r[j] at j; fault tell u[j] vector j; } } channel c[i] from a to b stop; irq q[i] from d[i] to u[i] vector i; plan p[i] major i { each j in 0 .. 3 { cpu j { each k in 0 .. 3 { run u[k] k; } } } } master u[i]; start p[i]; } }`
	tree := roomier(reflect.ValueOf(read(t, src))).Interface().(api.Tree)
	before := fmt.Sprintf("%#v", full(reflect.ValueOf(tree)))
	one, _, why := Unfold(tree)
	other, _, _ := Unfold(tree)
	if after := fmt.Sprintf("%#v", full(reflect.ValueOf(tree))); why != api.OK || after != before {
		t.Errorf("R2: Unfold changed the tree or its spare room: %v", why)
	}
	if !apart(tree, one, other) {
		t.Errorf("R2: two lists share memory")
	}
	flat := roomier(reflect.ValueOf(one)).Interface().(api.Policy)
	before = fmt.Sprintf("%#v", full(reflect.ValueOf(flat)))
	text, why := Write(flat)
	again, _ := Write(flat)
	if after := fmt.Sprintf("%#v", full(reflect.ValueOf(flat))); why != api.OK || after != before {
		t.Errorf("R2: Write changed the policy or its spare room: %v", why)
	}
	if !apart(flat, text, again) {
		t.Errorf("R2: two texts share memory")
	}
}

// roomier makes a copy whose lists have spare room.
func roomier(v reflect.Value) reflect.Value {
	out := reflect.New(v.Type()).Elem()
	out.Set(v)
	switch v.Kind() {
	case reflect.Slice:
		out.Set(reflect.MakeSlice(v.Type(), v.Len(), v.Len()+3))
		for i := range v.Len() {
			out.Index(i).Set(roomier(v.Index(i)))
		}
	case reflect.Struct:
		for i := range v.NumField() {
			out.Field(i).Set(roomier(v.Field(i)))
		}
	}
	return out
}

// lists tells all lists in a value, an outer one ahead of those in it.
func lists(v reflect.Value) []reflect.Value {
	var out []reflect.Value
	switch v.Kind() {
	case reflect.Slice:
		out = append(out, v)
		for i := range v.Len() {
			out = append(out, lists(v.Index(i))...)
		}
	case reflect.Struct:
		for i := range v.NumField() {
			out = append(out, lists(v.Field(i))...)
		}
	}
	return out
}

// full tells what stands in the room of each list in a value.
func full(v reflect.Value) []any {
	var out []any
	for _, list := range lists(v) {
		out = append(out, copied(list.Slice(0, list.Cap())).Interface())
	}
	return out
}

// apart tells whether no two lists in these values share a byte.
func apart(values ...any) bool {
	type room struct{ from, to uintptr }
	var rooms []room
	for _, v := range values {
		for _, list := range lists(reflect.ValueOf(v)) {
			if list.Cap() > 0 {
				from := list.Pointer()
				rooms = append(rooms, room{from, from + uintptr(list.Cap())*list.Type().Elem().Size()})
			}
		}
	}
	slices.SortFunc(rooms, func(a, b room) int { return cmp.Compare(a.from, b.from) })
	for i := 1; i < len(rooms); i++ {
		if rooms[i].from < rooms[i-1].to {
			return false
		}
	}
	return len(rooms) > 0
}

// TestDeterminate: R4: the same tree, the same answer.
func TestDeterminate(t *testing.T) {
	t.Parallel()
	tree, _, _ := syntax.Parse([]byte(`system s { const a = 1; const b = 2; group g(x, y) { region r[x][y] size a + b; } each i in 0 .. 9 { use g(i, a); if i { use g(b, i); } } }`))
	first, _, _ := Unfold(tree)
	for range 20 {
		if p, _, _ := Unfold(tree); told(p) != told(first) {
			t.Fatalf("R4: %s, %s", told(p), told(first))
		}
	}
}

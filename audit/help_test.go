package audit

import (
	"errors"
	"slices"
	"testing"

	"bulkhead/api"
	"bulkhead/boot"
	"bulkhead/bundle"
	"bulkhead/forge"
	"bulkhead/pages"
)

// compiled is what comes of a text that is taken.
func compiled(t testing.TB, src string) forge.Built {
	t.Helper()
	b, err := forge.Compile([]byte(src))
	if err != nil {
		t.Fatalf("%.300q: %v", src, err)
	}
	return b
}

func family(t testing.TB, n int) forge.Built {
	t.Helper()
	return compiled(t, string(forge.Family(n)))
}

// read is what the bytes of an image say.
func read(t testing.TB, raw []byte) api.Image {
	t.Helper()
	i, _, why := bundle.Decode(raw)
	if why != api.OK {
		t.Fatal(why)
	}
	return i
}

// laid are the bytes of an image, their sums right.
func laid(t testing.TB, i api.Image) []byte {
	t.Helper()
	raw, why := bundle.Encode(i)
	if why != api.OK {
		t.Fatal(why)
	}
	return raw
}

// facts are those of bytes that are believed.
func facts(t testing.TB, raw []byte) api.Facts {
	t.Helper()
	f, err := Facts(raw)
	if err != nil {
		t.Fatalf("P18.1: %v", err)
	}
	return f
}

// reach is that of an actor of bytes that are believed.
func reach(t testing.TB, raw []byte, actor int) []api.Leaf {
	t.Helper()
	rows, err := Reach(raw, actor)
	if err != nil {
		t.Fatalf("P18.2: %d: %v", actor, err)
	}
	return rows
}

// list is that of bytes that are believed.
func list(t testing.TB, raw []byte) string {
	t.Helper()
	text, err := List(raw)
	if err != nil {
		t.Fatalf("P18.3: %v", err)
	}
	return string(text)
}

// edges are pairs of numbers.
func edges(ends ...int) []api.Edge {
	var out []api.Edge
	for n := 0; n < len(ends); n += 2 {
		out = append(out, api.Edge{From: ends[n], To: ends[n+1]})
	}
	return out
}

func sameFacts(a, b api.Facts) bool {
	return a.Subjects == b.Subjects && a.Devices == b.Devices && slices.Equal(a.Irqs, b.Irqs) && slices.Equal(a.Edges, b.Edges)
}

// bench is an image without ties: so many subjects and three devices, RAM from
// 2 MiB to 10 MiB in two spans, of which the upper one touches the first window.
func bench(subjects int) api.Image {
	i := api.Image{
		Base: 0x200000,
		Bus: api.Bus{
			Rams:    []api.Range{{At: 0x600000, Size: 4 << 20}, {At: 0x200000, Size: 4 << 20}},
			Devices: []api.Range{{At: 0xa00000, Size: 0x2000}, {At: 0xf0000000, Size: 0x1000}, {At: 0xa02000, Size: 0x3000}},
		},
		Devices: []api.Port{{Root: -1}, {Root: -1}, {Root: -1}},
		Plans:   []api.Schedule{{Major: 1, Lanes: [][]api.Stint{idle(1), idle(1), idle(1), idle(1)}}},
		Master:  -1,
	}
	for range subjects {
		i.Subjects = append(i.Subjects, api.Tenant{To: -1})
	}
	return i
}

func idle(ticks int) []api.Stint { return []api.Stint{{Subject: -1, Ticks: ticks}} }

// leaf is pages that are to be loaded from.
func leaf(virt, phys uint64, n int) api.Leaf { return api.Leaf{Virt: virt, Phys: phys, Pages: n} }

// stored is pages that are to be stored to as well.
func stored(virt, phys uint64, n int) api.Leaf {
	return api.Leaf{Virt: virt, Phys: phys, Pages: n, Write: true}
}

// spaces are what actors map.
type spaces map[int][]api.Leaf

// with are the bytes of an image with these spaces: a root for each subject, and
// for each device that maps something.
func with(t testing.TB, i api.Image, maps spaces) []byte {
	t.Helper()
	i.Devices = slices.Clone(i.Devices)
	i.Subjects = slices.Clone(i.Subjects)
	roots := map[int]int{}
	many := 0
	for actor := range len(i.Subjects) + len(i.Devices) {
		if actor >= len(i.Subjects) && len(maps[actor]) == 0 {
			continue
		}
		n, why := pages.Count(maps[actor])
		if why != api.OK {
			t.Fatalf("%d: %v", actor, why)
		}
		if roots[actor] = many; actor < len(i.Subjects) {
			i.Subjects[actor].Root = many
		} else {
			i.Devices[actor-len(i.Subjects)].Root = many
		}
		many += n
	}
	i.Tables = make([]api.Table, many)
	size, why := bundle.Size(i)
	if why != api.OK {
		t.Fatal(why)
	}
	for actor, root := range roots {
		tables, why := pages.Build(maps[actor], i.Base+4096*uint64(size-many+root))
		if why != api.OK {
			t.Fatalf("%d: %v", actor, why)
		}
		copy(i.Tables[root:], tables)
	}
	return laid(t, i)
}

// holdRefused holds that all calls refuse bytes for one thing, with nothing
// beside it.
func holdRefused(t *testing.T, what string, raw []byte, want boot.Refusal) {
	t.Helper()
	f, err := Facts(raw)
	holdError(t, "Facts: "+what, err, want)
	nothing := sameFacts(f, api.Facts{})
	for _, actor := range []int{0, -1, 1 << 40} {
		rows, err := Reach(raw, actor)
		holdError(t, "Reach: "+what, err, want)
		nothing = nothing && len(rows) == 0
	}
	text, err := List(raw)
	holdError(t, "List: "+what, err, want)
	gone, come, err := Compare(raw, family(t, 1).Image)
	holdError(t, "Compare, old: "+what, err, want)
	gone2, come2, err := Compare(family(t, 1).Image, raw)
	holdError(t, "Compare, late: "+what, err, want)
	if !nothing || len(text)+len(gone)+len(come)+len(gone2)+len(come2) > 0 {
		t.Errorf("R3: %s: something beside the refusal", what)
	}
}

// holdError holds an error against the refusal that it must be.
func holdError(t *testing.T, what string, err error, want boot.Refusal) {
	t.Helper()
	var r *boot.Refusal
	if !errors.As(err, &r) || *r != want || !errors.Is(err, want.Why) {
		t.Errorf("%s: %v, want %+v", what, err, want)
	}
}

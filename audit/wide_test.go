package audit

import (
	"slices"
	"strings"
	"testing"

	"bulkhead/api"
)

// crowd is an image of 64 subjects and 32 devices, with 64 MiB of RAM.
func crowd() api.Image {
	i := bench(64)
	i.Base, i.Bus = 0, api.Bus{Rams: []api.Range{{At: 0, Size: 64 << 20}}}
	i.Devices = nil
	for n := range uint64(32) {
		i.Bus.Devices = append(i.Bus.Devices, api.Range{At: 0xf0000000 + n<<20, Size: 1 << 20})
		i.Devices = append(i.Devices, api.Port{Root: -1})
	}
	return i
}

// everything is all RAM but for the image's own big pages, for writing.
func everything() []api.Leaf {
	return []api.Leaf{{Phys: 4 << 20, Pages: 30 * 512, Big: true, Write: true}}
}

// TestEverybody: P18.1: as many actors as there may be, who all share all.
func TestEverybody(t *testing.T) {
	t.Parallel()
	maps := spaces{}
	var want []api.Edge
	for u := range 96 {
		maps[u] = everything()
		for v := range 96 {
			if u != v {
				want = append(want, api.Edge{From: u, To: v})
			}
		}
	}
	raw := with(t, crowd(), maps)
	if f := facts(t, raw); !sameFacts(f, api.Facts{Subjects: 64, Devices: 32, Edges: want}) {
		t.Errorf("P18.1: %d edges, want %d", len(f.Edges), len(want))
	}
	if rows := reach(t, raw, 95); !slices.Equal(rows, everything()) {
		t.Errorf("P18.2: %+v", rows)
	}
}

// TestLastActors: P18.1: one writes and one reads, whatever their numbers.
func TestLastActors(t *testing.T) {
	t.Parallel()
	for _, ends := range [][2]int{{0, 63}, {63, 0}, {63, 64}, {64, 63}, {64, 95}, {95, 0}, {62, 95}, {95, 64}} {
		raw := with(t, crowd(), spaces{ends[0]: {stored(0, 63<<20, 1)}, ends[1]: {leaf(0, 62<<20, 512)}})
		if f := facts(t, raw); !slices.Equal(f.Edges, edges(ends[0], ends[1])) {
			t.Errorf("P18.1: %v: %v", ends, f.Edges)
		}
	}
}

// TestOften: P18.1, P18.2, P18.3: a few pages that are mapped wherever they may
// be, but for one page of each kind for loading alone.
func TestOften(t *testing.T) {
	t.Parallel()
	var often, small []api.Leaf
	for n := range uint64(500 * 512) {
		often = append(often, api.Leaf{Virt: n << 21, Phys: (4 + n%29*2) << 20, Pages: 512, Big: true, Write: n == 77})
	}
	for n := range uint64(400 * 512) {
		small = append(small, leaf(n<<12, 63<<20, 1))
	}
	// Of the big pages the one at 42 MiB is written to.
	raw := with(t, crowd(), spaces{0: often, 64: small, 65: {leaf(0, 43<<20, 1)}, 66: {leaf(0, 44<<20, 1), leaf(0x1000, 41<<20, 1)}})
	if f := facts(t, raw); !slices.Equal(f.Edges, edges(0, 65)) {
		t.Errorf("P18.1: big pages: %v", f.Edges)
	}
	if rows := reach(t, raw, 64); !slices.Equal(rows, small) {
		t.Errorf("P18.2: %d rows, want %d", len(rows), len(small))
	}
	text := list(t, raw)
	if rows := strings.Count(text, "\n  map "); rows < len(small) || strings.Count(text, " rw- big\n") != 1 {
		t.Errorf("P18.3: %d rows", rows)
	}
}

// TestLong: P18.1, P18.2: a space that has nearly all tables that an image may
// have; its last page alone is written to.
func TestLong(t *testing.T) {
	t.Parallel()
	var rows []api.Leaf
	for n := range uint64(940 * 512) {
		rows = append(rows, leaf(n<<12, (60<<20)+(n%2)<<13, 1))
	}
	last := &rows[len(rows)-1]
	last.Phys, last.Write = 62<<20, true
	raw := with(t, crowd(), spaces{63: rows, 0: {leaf(0, 60<<20, 4), leaf(0x10000, 62<<20, 1)}})
	if f := facts(t, raw); !slices.Equal(f.Edges, edges(63, 0)) {
		t.Errorf("P18.1: %v", f.Edges)
	}
	if got := reach(t, raw, 63); !slices.Equal(got, rows) {
		t.Errorf("P18.2: %d rows, want %d", len(got), len(rows))
	}
}

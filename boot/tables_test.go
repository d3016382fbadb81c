package boot

import (
	"fmt"
	"testing"

	"bulkhead/api"
	"bulkhead/forge"
)

// entry sets an entry of a table of the small image.
func entry(table, n int, bits uint64) func(i *api.Image) {
	return func(i *api.Image) { i.Tables[table][n] = bits }
}

// TestRoots: P15.2: the roots are the next tables in their order, and no table
// is left.
func TestRoots(t *testing.T) {
	t.Parallel()
	roots := func(a, b, d int) func(i *api.Image) {
		return func(i *api.Image) { i.Subjects[0].Root, i.Subjects[1].Root, i.Devices[1].Root = a, b, d }
	}
	holdFaults(t, []fault{
		{"the first root is not 0", 8, 1, api.ErrRoot, roots(1, 5, 6)},
		{"two roots turned", 8, 5, api.ErrRoot, roots(5, 0, 6)},
		{"one root for two", 8, 0, api.ErrRoot, roots(0, 0, 6)},
		{"one root for two, the other way", 8, 5, api.ErrRoot, roots(0, 5, 5)},
		{"a root that another one names", 8, 4, api.ErrRoot, roots(0, 4, 6)},
		{"a root too far", 8, 6, api.ErrRoot, roots(0, 6, 7)},
		{"a device's root is a subject's", 8, 0, api.ErrRoot, roots(0, 5, 0)},
		{"a device without its root", 8, 6, api.ErrRoot, roots(0, 5, -1)},
		{"no root left", 8, 6, api.ErrRoot, func(i *api.Image) { i.Devices[2].Root = 6 }},
		{"a table behind the last one", 8, 8, api.ErrRoot, entry(7, 7, 0)},
		{"two tables behind the last one", 8, 7, api.ErrRoot, entry(6, 3, 0)},
		{"the next root is named too late", 8, 5, api.ErrRoot, entry(0, 511, 0)},
		well("nobody, and no tables", func(i *api.Image) { *i = bare(smallBase, smallBus()) }),
	})
	orphan := bare(smallBase, smallBus())
	orphan.Tables = make([]api.Table, 2)
	holdCheck(t, "P15.2: tables of nobody", smallBus(), laid(t, orphan), Refusal{8, 0, api.ErrRoot})
	orphan.Devices[2].Root = 0
	holdCheck(t, "P15.2: a table of nobody", smallBus(), laid(t, orphan), Refusal{8, 1, api.ErrRoot})
	orphan.Devices[1].Root = 1
	holdCheck(t, "P15.2: devices in their order", smallBus(), laid(t, orphan), Refusal{8, 1, api.ErrRoot})
	orphan.Devices[1].Root, orphan.Devices[2].Root = 0, 1
	holdCheck(t, "P15.2: devices alone", smallBus(), laid(t, orphan), Refusal{})
}

// TestEntries: P15.2: entries that may not be, and tables out of their turn.
func TestEntries(t *testing.T) {
	t.Parallel()
	at := func(table int, what string, n int, bits uint64) fault {
		return fault{what, 8, table, api.ErrEntry, entry(table, n, bits)}
	}
	list := []fault{
		at(0, "a table twice", 5, frame(1)|1),
		at(0, "a table twice, ahead", 1, frame(1)|1),
		at(0, "itself", 0, frame(0)|1),
		at(1, "itself from below", 0, frame(1)|1),
		at(1, "the one above", 511, frame(0)|1),
		at(0, "the table behind the next", 0, frame(2)|1),
		at(0, "a table of the next root", 511, frame(5)|1),
		at(7, "the page behind the image", 8, frame(9)|1),
		at(6, "the page behind the image, from a root", 4, frame(9)|1),
		at(0, "the image's first page", 0, smallBase|1),
		at(0, "a page of RAM", 0, 0x300000|1),
		at(0, "a page off the bus", 0, 0x1000|1),
		at(0, "a page of a window", 511, 0xa00000|1),
		at(0, "to be written", 0, frame(1)|1|2),
		at(0, "to be fetched from", 0, frame(1)|1|4),
		at(0, "a big one of a root", 5, 0x400000|1|8),
		at(1, "a table to be written", 0, frame(2)|1|2),
		at(1, "a table to be fetched from", 0, frame(2)|1|4),
		at(1, "a big page askew", 1, 0x401000|1|8),
		at(2, "a big page at the last level", 0, 0x400000|1|8),
		at(0, "the table, absent", 0, frame(1)),
		at(1, "the big page, absent", 1, 0x400000|2|4|8),
		at(2, "the page, absent", 0, 0x300000|2),
		{"an entry behind a table's", 8, 1, api.ErrEntry, entry(1, 1, frame(3)|1)},
	}
	for bit := range 64 {
		absent := uint64(1) << bit
		for _, table := range []int{0, 1, 2, 8} {
			if bit != 0 {
				list = append(list, at(table, fmt.Sprintf("bit %d alone", bit), 300, absent))
			}
		}
		if bit >= 4 && bit < 12 || bit >= 32 {
			for table, n := range map[int]int{0: 0, 1: 1, 2: 0, 6: 3, 8: 9} {
				list = append(list, fault{fmt.Sprintf("bit %d", bit), 8, table, api.ErrEntry, func(i *api.Image) { i.Tables[table][n] |= absent }})
			}
		}
	}
	holdFaults(t, list)
	holdFaults(t, []fault{
		{"of one entry ErrEntry goes ahead", 8, 2, api.ErrEntry, entry(2, 3, 0x1000|1|16)},
		{"of two entries the lower one", 8, 2, api.ErrLeaf, func(i *api.Image) { i.Tables[2][3], i.Tables[2][4] = 0x1000|1, 16 }},
		{"a table goes ahead of the next entry", 8, 2, api.ErrLeaf, func(i *api.Image) { i.Tables[2][511], i.Tables[1][1] = 0x1000|1, 16 }},
		{"and the entry ahead of the next table", 8, 1, api.ErrEntry, func(i *api.Image) { i.Tables[1][1], i.Tables[3][0] = 16, 16 }},
	})
}

// TestLeaves: P15.2: a leaf lies whole in RAM outside the image, or whole in one
// window.
func TestLeaves(t *testing.T) {
	t.Parallel()
	const last = smallBase + 9*4096
	for at, ok := range map[uint64]bool{
		0: false, 0x1ff000: false, 0x200000: true, smallBase: false, smallBase + 4096: false, last: false, last + 4096: true,
		0x300000: true, 0x5ff000: true, 0x600000: true, 0x7ff000: true, 0x800000: true, 0x8ff000: true, 0x900000: true,
		0x9ff000: true, 0xa00000: true, 0xa01000: false, 0xfffff000: false, frame(0): false, frame(8): false,
	} {
		f := well(fmt.Sprintf("P15.2: a leaf at %#x", at), entry(8, 0, at|1|2|4))
		if !ok {
			f.section, f.at, f.why = 8, 8, api.ErrLeaf
		}
		holdFaults(t, []fault{f})
	}
	for at, ok := range map[uint64]bool{0: false, 0x200000: false, 0x400000: true, 0x600000: true, 0x800000: false, 0xa00000: false, 0xffe00000: false} {
		f := well(fmt.Sprintf("P15.2: a big leaf at %#x", at), entry(7, 0, at|1|8))
		if !ok {
			f.section, f.at, f.why = 8, 7, api.ErrLeaf
		}
		holdFaults(t, []fault{f})
	}
}

// TestBigLeaves: P15.2: spans of RAM that touch are one ground for a big leaf;
// a span and a window, or a hole between, are none.
func TestBigLeaves(t *testing.T) {
	t.Parallel()
	r := func(at, size uint64) api.Range { return api.Range{At: at, Size: size} }
	leaf := Refusal{8, 1, api.ErrLeaf}
	for _, c := range []struct {
		what          string
		rams, devices []api.Range
		want          Refusal
	}{
		{"two spans", []api.Range{r(0x400000, 1<<20), r(0x500000, 1<<20)}, nil, Refusal{}},
		{"two spans, turned", []api.Range{r(0x500000, 2<<20), r(0x400000, 1<<20)}, nil, Refusal{}},
		{"a hole between", []api.Range{r(0x400000, 1<<20), r(0x501000, 2<<20)}, nil, leaf},
		{"a window behind", []api.Range{r(0x400000, 1<<20)}, []api.Range{r(0x500000, 1<<20)}, leaf},
		{"a window ahead", []api.Range{r(0x500000, 1<<20)}, []api.Range{r(0x400000, 1<<20)}, leaf},
		{"a window between", []api.Range{r(0x400000, 1<<20), r(0x501000, 2<<20)}, []api.Range{r(0x500000, 4096)}, leaf},
		{"a page too few", []api.Range{r(0x400000, 1<<21-4096)}, nil, leaf},
		{"begins behind", []api.Range{r(0x401000, 1<<21)}, nil, leaf},
	} {
		b := api.Bus{Rams: append([]api.Range{r(0x10000, 4<<12)}, c.rams...), Devices: c.devices}
		i := bare(0x11000, b)
		i.Subjects = []api.Tenant{{To: -1}}
		i.Tables = make([]api.Table, 2)
		i.Tables[0][7], i.Tables[1][8] = 0x13000|1, 0x400000|1|2|8
		raw := laid(t, i)
		holdCheck(t, "P15.2: "+c.what, b, raw, c.want)
		if v := verdict(b, raw); v != c.want {
			t.Errorf("P15.2: %s: the model says %+v", c.what, v)
		}
	}
}

// TestMostTables: P15.7: as many tables as an image may have, each full.
func TestMostTables(t *testing.T) {
	t.Parallel()
	b := api.Bus{Rams: []api.Range{{At: 0, Size: 8 << 20}}}
	i := bare(4096, b)
	i.Subjects = []api.Tenant{{To: -1}}
	i.Tables = make([]api.Table, 1023)
	for n := 1; n < 1023; n++ {
		above, at := 0, n/514
		if n != 1 && n != 514 {
			above, at = 1+513*(n/514), (n-2)%513
			for e := range 512 {
				i.Tables[n][e] = 1
			}
		}
		i.Tables[above][at] = 8192 + 4096*uint64(n) | 1
	}
	raw := laid(t, i)
	holdCheck(t, "P15.7: the greatest image", b, raw, Refusal{})
	i.Tables[1022][511] = 4096 | 1
	holdCheck(t, "P15.7: its last entry", b, laid(t, i), Refusal{8, 1022, api.ErrLeaf})
}

// TestBits: the chapter's first example, and the document's tenth: a bit of a
// table turned is refused or another mapping; without the sum made right it is
// refused, wherever it is turned.
func TestBits(t *testing.T) {
	t.Parallel()
	built := compiled(t, string(forge.Family(1)))
	b, i := forge.Bus(built.Policy), read(t, built.Image)
	count := map[api.Errno]int{}
	turn := func(table, n, bit int) {
		i.Tables[table][n] ^= 1 << bit
		raw := laid(t, i)
		v := verdict(b, raw)
		holdCheck(t, fmt.Sprintf("P15.2: bit %d of entry %d of table %d", bit, n, table), b, raw, v)
		i.Tables[table][n] ^= 1 << bit
		count[v.Why]++
	}
	for table := range i.Tables {
		for n, e := range i.Tables[table] {
			for bit := 0; bit < 64 && (e != 0 || n == 3); bit++ {
				turn(table, n, bit)
			}
		}
	}
	if len(count) != 3 || count[api.OK] == 0 || count[api.ErrEntry] == 0 || count[api.ErrLeaf] == 0 {
		t.Errorf("P15.2: bits of tables: %v", count)
	}
	for at := 0; at < len(built.Image); at += 27 {
		built.Image[at] ^= 1 << (at % 8)
		if _, err := Check(b, built.Image); err == nil {
			t.Errorf("W6: byte %d turned, and taken", at)
		}
		built.Image[at] ^= 1 << (at % 8)
	}
}

package walk

import (
	"math"
	"slices"
	"testing"

	"bulkhead/api"
)

// told is what Leaves tells at once.
type told struct {
	leaf api.Leaf
	why  api.Errno
}

// list is all that Leaves tells.
func list(m Memory, root uint64, most int) []told {
	var l []told
	for leaf, why := range Leaves(m, root, most) {
		l = append(l, told{leaf, why})
	}
	return l
}

// tells holds what Leaves tells against a list.
func tells(t *testing.T, where string, m Memory, root uint64, most int, want ...told) {
	t.Helper()
	if l := list(m, root, most); !slices.Equal(l, want) {
		t.Errorf("P4.6: %s: %v, want %v", where, l, want)
	}
}

// page is an ordinary leaf; hole is one that may not be.
func page(virt, phys uint64) told { return told{leaf: api.Leaf{Virt: virt, Phys: phys, Pages: 1}} }
func hole(virt uint64, pages int) told {
	return told{api.Leaf{Virt: virt, Pages: pages}, api.ErrTable}
}

func TestLeavesRuns(t *testing.T) {
	m := few(t)
	leaf := told{leaf: api.Leaf{Virt: 0x3000, Phys: 0x5000, Pages: 1, Write: true}}
	tells(t, "a root", m, 1, 5, hole(0, 1<<27))
	tells(t, "most 3", m, 4096, 3, leaf)
	tells(t, "most 2", m, 4096, 2)
	tells(t, "most 1", m, 4096, 1)
	tells(t, "most in plenty", m, 4096, math.MaxInt, leaf)
	for _, most := range []int{0, -1, math.MinInt} {
		tells(t, "most below 1", m, 4096, most)
		tells(t, "most below 1, and a root", m, 1, most)
		tells(t, "most below 1, and nothing", nil, 1, most)
	}
	tells(t, "a root, most 1", m, 4095, 1, hole(0, 1<<27))
	tells(t, "a root between entries", m, 4096+8, 9, hole(0, 1<<27))
	tells(t, "a root amid a page", m, 4096+2048, 9, hole(0, 1<<27))
	tells(t, "a root of 64 bits", m, math.MaxUint64, 9, hole(0, 1<<27))
	tells(t, "nothing", nil, 4096, 9)
	tells(t, "nothing, and a root", nil, 1, 9)
	if m.Loads() != 0 || m.Stores() != 3 {
		t.Errorf("P4.5: %d loads, %d stores", m.Loads(), m.Stores())
	}
}

// TestLeavesKinds: P4.6: of each level what is told of leaves, of entries that
// are absent or may not be, by rising virtual address, and what counts.
func TestLeavesKinds(t *testing.T) {
	const top, mid, low = 1 << 30, 1 << 21, 1 << 12
	m := machine(t, api.Range{At: 4096, Size: 16384})
	put(t, m, 4096, 0, 0x2001, 1, 0x2000, 2, 0x2003, 3, 0x200009, 511, 0x2001)
	put(t, m, 8192, 1, 0x3001, 2, 0x40000B, 3, 0x60000D, 4, 0x601009, 5, 0x3005, 511, 0xFFE00009)
	put(t, m, 12288, 0, 0x5001, 1, 0x5007, 2, 0x5002, 3, 0x5009, 4, 1<<40|1, 511, 0xFFFFF005)
	under := func(base uint64) []told {
		return []told{
			{}, // the entry that names the table
			page(base+mid, 0x5000),
			{leaf: api.Leaf{Virt: base + mid + low, Phys: 0x5000, Pages: 1, Write: true, Exec: true}},
			hole(base+mid+3*low, 1),
			hole(base+mid+4*low, 1),
			{leaf: api.Leaf{Virt: base + mid + 511*low, Phys: 0xFFFFF000, Pages: 1, Exec: true}},
			{leaf: api.Leaf{Virt: base + 2*mid, Phys: 0x400000, Pages: 512, Big: true, Write: true}},
			{leaf: api.Leaf{Virt: base + 3*mid, Phys: 0x600000, Pages: 512, Big: true, Exec: true}},
			hole(base+4*mid, 512),
			hole(base+5*mid, 512),
			{leaf: api.Leaf{Virt: base + 511*mid, Phys: 0xFFE00000, Pages: 512, Big: true}},
		}
	}
	come := append([]told{{}}, under(0)...)
	come = append(come, hole(2*top, 1<<18), hole(3*top, 1<<18), told{})
	come = append(come, under(511*top)...)
	for most := range len(come) + 5 {
		var want []told
		for _, x := range come[:min(most, len(come))] {
			if x != (told{}) {
				want = append(want, x)
			}
		}
		tells(t, "all kinds", m, 4096, most, want...)
	}
}

// TestLeavesOffBus: P4.6: tables off the bus, of each level, are told entry by
// entry.
func TestLeavesOffBus(t *testing.T) {
	m := few(t)
	put(t, m, 4096, 0, 0)
	holes := func(base uint64, level int) []told {
		var l []told
		for i := range uint64(512) {
			size := 1 << (18 - 9*level)
			l = append(l, hole(base+i*uint64(size)*4096, size))
		}
		return l
	}
	tells(t, "the root", m, 0, 1000, holes(0, 0)...)
	tells(t, "a root of 64 bits", m, 1<<63, 1000, holes(0, 0)...)
	tells(t, "the root, cut", m, 0, 3, holes(0, 0)[:3]...)
	put(t, m, 4096, 7, 0x80000001)
	tells(t, "level 1", m, 4096, 1000, holes(7<<30, 1)...)
	tells(t, "level 1, cut", m, 4096, 3, holes(7<<30, 1)[:2]...)
	put(t, m, 4096, 7, 0x2001)
	put(t, m, 8192, 0, 0, 9, 0x80000001, 10, 0x200009)
	big := told{leaf: api.Leaf{Virt: 7<<30 + 10<<21, Phys: 0x200000, Pages: 512, Big: true}}
	tells(t, "level 2", m, 4096, 1000, append(holes(7<<30+9<<21, 2), big)...)
	tells(t, "level 2, cut", m, 4096, 514, holes(7<<30+9<<21, 2)...)
}

// TestLeavesEarly: P4.6: left early it tells no more; ranged over again it
// begins anew, and looks anew.
func TestLeavesEarly(t *testing.T) {
	m := few(t)
	put(t, m, 8192, 1, 0x400009)
	put(t, m, 4096, 1, 0x2001, 2, 0x2003)
	whole := list(m, 4096, 100)
	if len(whole) != 5 {
		t.Fatalf("P4.6: %v", whole)
	}
	leaves := Leaves(m, 4096, 100)
	for stop := range len(whole) + 1 {
		var l []told
		for leaf, why := range leaves {
			if len(l) == stop {
				break
			}
			l = append(l, told{leaf, why})
		}
		if !slices.Equal(l, whole[:stop]) {
			t.Errorf("P4.6: left behind %d: %v", stop, l)
		}
		n := 0
		leaves(func(api.Leaf, api.Errno) bool { n++; return n < stop })
		if n != max(stop, 1) {
			t.Errorf("P4.6: told %d, and was to stop at %d", n, stop)
		}
	}
	odd := 0
	Leaves(m, 1, 100)(func(api.Leaf, api.Errno) bool { odd++; return true })
	if odd != 1 {
		t.Errorf("P4.6: of a root that may not be it told %d", odd)
	}
	put(t, m, 4096, 1, 0, 2, 0)
	var l []told
	for leaf, why := range leaves {
		l = append(l, told{leaf, why})
	}
	if !slices.Equal(l, whole[:2]) {
		t.Errorf("P4.6: ranged over again: %v", l)
	}
}

// TestLeavesWithin: P4.6: an iterator ranged over within its own loop: each
// has its own count.
func TestLeavesWithin(t *testing.T) {
	m := few(t)
	put(t, m, 12288, 4, 0x5001, 5, 0x5001)
	leaves := Leaves(m, 4096, 4)
	n := 0
	for range leaves {
		for range leaves {
			n++
		}
	}
	if n != 4 {
		t.Errorf("P4.6: %d, want 4", n)
	}
}

// TestLeavesItself: P4.6: a table that names itself, and tables without end:
// it goes into at most most + 1 of them, and ends.
func TestLeavesItself(t *testing.T) {
	m := machine(t, api.Range{At: 4096, Size: 4096})
	put(t, m, 4096, 0, 0x1001, 1, 0x1001)
	self := list(m, 4096, 100)
	want := []told{}
	for i := range uint64(8) {
		want = append(want, page(i>>2<<30|i>>1&1<<21|i&1<<12, 0x1000))
	}
	if !slices.Equal(self, want) {
		t.Errorf("P4.6: a table that names itself: %v", self)
	}
	for i := range uint64(512) {
		put(t, m, 4096, i, 0x1001)
	}
	for most, leaves := range map[int]int{2: 0, 3: 1, 514: 512, 515: 512, 516: 513, 100000: 99804} {
		if n := len(list(m, 4096, most)); n != leaves {
			t.Errorf("P4.6: most %d: %d leaves, want %d", most, n, leaves)
		}
	}
	for _, most := range []int{1, 2, 3, 10, 600, 3000} {
		seen := map[uint64]bool{}
		next := uint64(0)
		endless := other{peek: func(at uint64, width int) (uint64, api.Fault) {
			seen[at/4096] = true
			if at%4096 > 8*200 {
				return 0, none
			}
			next = (next + 4096) % api.MaxPhys
			return next | 1, none
		}}
		n := len(list(endless, api.MaxPhys, most))
		if n > most || len(seen) > most+1 {
			t.Errorf("P4.6: most %d: %d told, %d tables gone into", most, n, len(seen))
		}
	}
}

// TestLeavesEnd: P4.6: as soon as most is counted it ends: the table that was
// named last is not gone into, nothing behind is looked at.
func TestLeavesEnd(t *testing.T) {
	m := few(t)
	for most, want := range map[int][]uint64{0: nil, 1: {1}, 2: {1, 2}, 3: {1, 2, 3}} {
		seen := note(m)
		for range Leaves(seen, 4096, most) {
		}
		var pages []uint64
		for p := range seen.pages {
			pages = append(pages, p)
		}
		slices.Sort(pages)
		if !slices.Equal(pages, want) {
			t.Errorf("P4.6: most %d: looked into the pages %v, want %v", most, pages, want)
		}
	}
}

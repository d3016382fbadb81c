package pages

import (
	"slices"
	"testing"

	"bulkhead/api"
	"bulkhead/bus"
)

const (
	mib = 1 << 20
	gib = 1 << 30
)

// row is one of pages that are only to be loaded from.
func row(virt, phys uint64, n int) api.Leaf { return api.Leaf{Virt: virt, Phys: phys, Pages: n} }

// bigRow is one of big pages.
func bigRow(virt, phys uint64, n int) api.Leaf {
	return api.Leaf{Virt: virt, Phys: phys, Pages: n, Big: true}
}

// each is rows of a page each, so many, from one multiple of step to the next.
func each(n int, step uint64) []api.Leaf {
	var rows []api.Leaf
	for i := range uint64(n) {
		rows = append(rows, row(i*step, i%1024*4096, 1))
	}
	return rows
}

// holdCount holds Count and Build of rows against how many tables there must
// be, or why there are none.
func holdCount(t *testing.T, where string, rows []api.Leaf, many int, want api.Errno) {
	t.Helper()
	n, why := Count(rows)
	if n != many || why != want {
		t.Errorf("%s: Count: %d %v, want %d %v", where, n, why, many, want)
	}
	list, why := Build(rows, 4096)
	if len(list) != many || why != want {
		t.Errorf("%s: Build: %d tables, %v, want %d %v", where, len(list), why, many, want)
	}
}

// holdRefused holds what all calls say of rows of which one is refused.
func holdRefused(t *testing.T, where string, rows []api.Leaf, want api.Errno) {
	t.Helper()
	holdCount(t, "P12.1: "+where, rows, 0, want)
	if got := Runs(rows); len(got) != 0 {
		t.Errorf("P12.4: %s: %v", where, got)
	}
	// An odd base, and one too high, are asked for behind all rows.
	for _, base := range []uint64{1, api.MaxPhys} {
		if list, why := Build(rows, base); len(list) != 0 || why != want {
			t.Errorf("P12.1: %s: at %#x: %d tables, %v, want %v", where, base, len(list), why, want)
		}
	}
}

// holdTables holds Build of rows against the tables that there must be.
func holdTables(t *testing.T, where string, rows []api.Leaf, base uint64, want ...api.Table) {
	t.Helper()
	got, why := Build(rows, base)
	if why != api.OK || !slices.Equal(got, want) {
		t.Errorf("P12.2: %s: %d tables, %v, want %d", where, len(got), why, len(want))
		for i := range min(len(got), len(want)) {
			tellUnlike(t, i, got[i], want[i])
		}
	}
	if n, why := Count(rows); n != len(want) || why != api.OK {
		t.Errorf("P12.2: %s: Count: %d %v, want %d", where, n, why, len(want))
	}
}

// tellUnlike tells the entries of a table that are not what they must be.
func tellUnlike(t *testing.T, number int, got, want api.Table) {
	t.Helper()
	for i := range got {
		if got[i] != want[i] {
			t.Errorf("table %d, entry %d: %#x, want %#x", number, i, got[i], want[i])
		}
	}
}

// memory is a machine in which the tables' bytes lie from base on.
func memory(t *testing.T, list []api.Table, base uint64) *bus.Machine {
	t.Helper()
	m, why := bus.New(api.Bus{Rams: []api.Range{{At: base, Size: uint64(len(list)) * 4096}}})
	if why != api.OK {
		t.Fatalf("bus.New: %v", why)
	}
	for i, table := range list {
		at := base + uint64(i)*4096
		for k, b := range Bytes(table) {
			if f := m.Store(at+uint64(k), 1, uint64(b)); f.Why != api.OK {
				t.Fatalf("the table %d: %v", i, f)
			}
		}
	}
	return m
}

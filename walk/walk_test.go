package walk

import (
	"math"
	"testing"

	"bulkhead/api"
	"bulkhead/bus"
)

// The machine, by its pointer, is a Memory.
var _ Memory = (*bus.Machine)(nil)

// translate holds a Translate against what it must answer; of a refusal, At is
// virt.
func translate(t *testing.T, m Memory, root, virt uint64, access int, want uint64, why api.Errno) {
	t.Helper()
	fault := none
	if why != api.OK {
		fault = fail(why, virt)
	}
	at, f := Translate(m, root, virt, access)
	if at != want || f != fault {
		t.Errorf("P4.3: Translate(%#x, %#x, %d): %#x %v, want %#x %v", root, virt, access, at, f, want, fault)
	}
}

func TestTranslateRuns(t *testing.T) {
	m := few(t)
	translate(t, m, 4096, 0x3010, api.Load, 20496, api.OK)
	translate(t, m, 4096, 0x3010, api.Store, 20496, api.OK)
	translate(t, m, 4096, 0x3010, api.Fetch, 0, api.ErrExec)
	translate(t, m, 4096, 0x3000, api.Load, 20480, api.OK)
	translate(t, m, 4096, 0x3FFF, api.Load, 24575, api.OK)
	translate(t, m, 4096, 0x2FFF, api.Load, 0, api.ErrAbsent)
	translate(t, m, 4096, 0x4000, api.Load, 0, api.ErrAbsent)
	translate(t, m, 4096, 1<<39, 9, 0, api.ErrArg)
	translate(t, m, 4096, 1<<39, api.Load, 0, api.ErrHole)
	if m.Loads() != 0 || m.Stores() != 3 {
		t.Errorf("P4.5: %d loads, %d stores", m.Loads(), m.Stores())
	}
}

// TestTranslateOrder: P4.3: each refusal stands ahead of those behind it.
func TestTranslateOrder(t *testing.T) {
	m := few(t)
	for _, access := range []int{math.MinInt, -1, 0, 4, 9, math.MaxInt} {
		translate(t, m, 4096, 0x3010, access, 0, api.ErrArg)
		translate(t, m, 4097, math.MaxUint64, access, 0, api.ErrArg)
	}
	translate(t, nil, 4096, 0x3010, api.Load, 0, api.ErrArg)
	translate(t, nil, 4097, 1<<40, api.Store, 0, api.ErrArg)
	for _, virt := range []uint64{api.MaxVirt, api.MaxVirt + 1, 1<<39 + 0x3010, 1 << 40, 1 << 63, math.MaxUint64} {
		translate(t, m, 4096, virt, api.Load, 0, api.ErrHole)
		translate(t, m, 4097, virt, api.Fetch, 0, api.ErrHole)
	}
	translate(t, m, 4096, api.MaxVirt-1, api.Load, 0, api.ErrAbsent)
	for _, root := range []uint64{1, 4095, 4097, 4096 + 8, 4096 + 2048, math.MaxUint64} {
		translate(t, m, root, 0x3010, api.Fetch, 0, api.ErrTable)
	}
	for _, root := range []uint64{0, 24576, 1 << 31, 1<<32 + 4096, math.MaxUint64 - 4095} {
		translate(t, m, root, 0x3010, api.Fetch, 0, api.ErrTable)
		translate(t, m, root, api.MaxVirt-1, api.Fetch, 0, api.ErrTable)
	}
}

// TestTranslateTables: P4.3: at each of the levels an entry that may not be,
// one that is absent, a table off the bus; and what stands behind the leaf.
func TestTranslateTables(t *testing.T) {
	m := machine(t, api.Range{At: 4096, Size: 16384})
	put(t, m, 4096, 0, 0x2001, 1, 0x2003, 2, 0x2000, 3, 1<<31|1, 4, 17, 5, 0x200009)
	put(t, m, 8192, 0, 0x3001, 1, 0x3005, 2, 0x3000, 3, 1<<31|1, 4, 0x40000F, 5, 0x600009, 6, 0x201009, 7, 0x60000D, 8, 0xFFE0000B)
	put(t, m, 12288, 0, 0x5001, 1, 0x5003, 2, 0x5005, 3, 0x5007, 4, 0x5009, 5, 0x5006, 6, 0x5011, 7, 0xFFFFF001)
	const top, mid, low = 1 << 30, 1 << 21, 1 << 12
	for _, c := range []struct {
		virt               uint64
		want               uint64
		load, store, fetch api.Errno
	}{
		{1 * top, 0, api.ErrTable, api.ErrTable, api.ErrTable},
		{2 * top, 0, api.ErrAbsent, api.ErrAbsent, api.ErrAbsent},
		{3 * top, 0, api.ErrTable, api.ErrTable, api.ErrTable},
		{4 * top, 0, api.ErrTable, api.ErrTable, api.ErrTable},
		{5 * top, 0, api.ErrTable, api.ErrTable, api.ErrTable},
		{6 * top, 0, api.ErrAbsent, api.ErrAbsent, api.ErrAbsent},
		{1 * mid, 0, api.ErrTable, api.ErrTable, api.ErrTable},
		{2 * mid, 0, api.ErrAbsent, api.ErrAbsent, api.ErrAbsent},
		{3 * mid, 0, api.ErrTable, api.ErrTable, api.ErrTable},
		{4*mid + 0x12345, 0x412345, api.OK, api.OK, api.OK},
		{5*mid + 0x1FFFFF, 0x7FFFFF, api.OK, api.ErrWrite, api.ErrExec},
		{6 * mid, 0, api.ErrTable, api.ErrTable, api.ErrTable},
		{7*mid + 0x1000, 0x601000, api.OK, api.ErrWrite, api.OK},
		{8*mid + 0x1FFFFF, 0xFFFFFFFF, api.OK, api.OK, api.ErrExec},
		{0*low + 5, 0x5005, api.OK, api.ErrWrite, api.ErrExec},
		{1*low + 6, 0x5006, api.OK, api.OK, api.ErrExec},
		{2*low + 7, 0x5007, api.OK, api.ErrWrite, api.OK},
		{3*low + 4095, 0x5FFF, api.OK, api.OK, api.OK},
		{4 * low, 0, api.ErrTable, api.ErrTable, api.ErrTable},
		{5 * low, 0, api.ErrAbsent, api.ErrAbsent, api.ErrAbsent},
		{6 * low, 0, api.ErrTable, api.ErrTable, api.ErrTable},
		{7*low + 4095, 0xFFFFFFFF, api.OK, api.ErrWrite, api.ErrExec},
	} {
		for access, why := range map[int]api.Errno{api.Load: c.load, api.Store: c.store, api.Fetch: c.fetch} {
			want := c.want
			if why != api.OK {
				want = 0
			}
			translate(t, m, 4096, c.virt, access, want, why)
		}
	}
}

// TestTranslateNumbers: P4.3: which bits of virt tell which entry, at the ends
// of each table.
func TestTranslateNumbers(t *testing.T) {
	for _, a := range []uint64{0, 1, 255, 511} {
		for _, b := range []uint64{0, 2, 256, 511} {
			for _, c := range []uint64{0, 3, 257, 511} {
				m := machine(t, api.Range{At: 0, Size: 16384})
				put(t, m, 0, a, 0x2001)
				put(t, m, 8192, b, 0x1001)
				put(t, m, 4096, c, 0x3007)
				virt := a<<30 | b<<21 | c<<12
				translate(t, m, 0, virt, api.Fetch, 0x3000, api.OK)
				translate(t, m, 0, virt|4095, api.Store, 0x3FFF, api.OK)
				for bit := 12; bit < 39; bit++ {
					translate(t, m, 0, virt^1<<bit, api.Load, 0, api.ErrAbsent)
				}
			}
		}
	}
}

// TestTranslateHighRoot: the last entry of the last table that 64 bits name.
func TestTranslateHighRoot(t *testing.T) {
	const high = math.MaxUint64 - 4095
	m := other{peek: func(at uint64, width int) (uint64, api.Fault) {
		switch at {
		case high + 8*511:
			return 0x1001, none
		case 0x1000 + 8*511:
			return 0x20000F, none
		}
		return 0, none
	}}
	translate(t, m, high, api.MaxVirt-1, api.Fetch, 0x3FFFFF, api.OK)
	translate(t, m, high, 0, api.Load, 0, api.ErrAbsent)
}

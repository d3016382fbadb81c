package walk

import (
	"math"
	"slices"
	"testing"

	"bulkhead/api"
)

func TestAccessRuns(t *testing.T) {
	m := few(t)
	n, f := Load(m, 4096, 0x3FFE, 4)
	number(t, "P4.4: the third byte is not mapped", n, f, 0, fail(api.ErrAbsent, 0x4000))
	number(t, "P4.4: the first byte is beyond", 0, Store(m, 4096, math.MaxUint64-1, 4, 7), 0, fail(api.ErrHole, math.MaxUint64-1))
	n, f = Load(m, 4096, 0x3000, 3)
	number(t, "P4.4: a width", n, f, 0, fail(api.ErrWidth, 0x3000))
	number(t, "P4.4: Store", 0, Store(m, 4096, 0x3FFF, 1, 0x1FF), 0, none)
	n, f = m.Peek(24575, 1)
	number(t, "P4.4: what Store laid", n, f, 0xFF, none)
	put(t, m, 12288, 3, 1<<31|3)
	n, f = Load(m, 4096, 0x3FFC, 4)
	number(t, "P4.4: the page is off the bus", n, f, 0, fail(api.ErrBus, 0x3FFC))
}

// refused holds all three accesses against one Fault.
func refused(t *testing.T, where string, m Memory, root, virt uint64, width int, want api.Fault) {
	t.Helper()
	n, f := Load(m, root, virt, width)
	number(t, "P4.4: Load: "+where, n, f, 0, want)
	n, f = Fetch(m, root, virt, width)
	number(t, "P4.4: Fetch: "+where, n, f, 0, want)
	number(t, "P4.4: Store: "+where, 0, Store(m, root, virt, width, math.MaxUint64), 0, want)
}

// TestAccessOrder: P4.4: the parts in their order, and that what is refused
// has loaded and stored nothing.
func TestAccessOrder(t *testing.T) {
	m := machine(t, api.Range{At: 4096, Size: 20480}, api.Range{At: 0x10000, Size: 4096})
	put(t, m, 4096, 0, 0x2001, 511, 0x2001)
	put(t, m, 8192, 0, 0x3001, 511, 0x3001)
	// 0: on the bus; 1: off it; 2: absent; 3: may not be; 4: off; 5: on.
	put(t, m, 12288, 0, 0x5007, 1, 0x6007, 3, 0x5017, 4, 0x80000007, 5, 0x10007, 511, 0x5007)
	seen := note(m)
	before := all(t, m)
	for _, width := range []int{math.MinInt, -8, -1, 0, 3, 5, 6, 7, 9, 16, math.MaxInt} {
		refused(t, "a width", seen, 4096, 0x10, width, fail(api.ErrWidth, 0x10))
		refused(t, "a width, ahead of a hole", seen, 4097, api.MaxVirt, width, fail(api.ErrWidth, api.MaxVirt))
		refused(t, "nothing, ahead of a width", nil, 4096, 0x10, width, fail(api.ErrArg, 0x10))
	}
	refused(t, "nothing", nil, 4096, api.MaxVirt, 8, fail(api.ErrArg, api.MaxVirt))
	refused(t, "a root", seen, 4104, 0x10, 8, fail(api.ErrTable, 0x10))
	refused(t, "a hole, ahead of a root", seen, 4104, api.MaxVirt, 8, fail(api.ErrHole, api.MaxVirt))
	refused(t, "the first byte off the bus", seen, 4096, 0x1000, 8, fail(api.ErrBus, 0x1000))
	refused(t, "the third byte off the bus", seen, 4096, 0x0FFE, 4, fail(api.ErrBus, 0x1000))
	refused(t, "the last byte off the bus", seen, 4096, 0x0FF9, 8, fail(api.ErrBus, 0x1000))
	refused(t, "absent behind off the bus", seen, 4096, 0x1FFC, 8, fail(api.ErrAbsent, 0x2000))
	refused(t, "off the bus behind what may not be", seen, 4096, 0x3FFE, 4, fail(api.ErrTable, 0x3FFE))
	refused(t, "what may not be, behind absent", seen, 4096, 0x2FFF, 2, fail(api.ErrAbsent, 0x2FFF))
	refused(t, "on the bus behind off the bus", seen, 4096, 0x4FFF, 2, fail(api.ErrBus, 0x4FFF))
	refused(t, "over MaxVirt", seen, 4096, api.MaxVirt-1, 2, fail(api.ErrHole, api.MaxVirt))
	refused(t, "over MaxVirt", seen, 4096, api.MaxVirt-7, 8, fail(api.ErrHole, api.MaxVirt))
	for back := range uint64(8) {
		virt := math.MaxUint64 - back
		refused(t, "over 2^64", seen, 4096, virt, 8, fail(api.ErrHole, virt))
	}
	if len(seen.calls) != 0 || all(t, m) != before {
		t.Errorf("P4.4: refused accesses asked for %v", seen.calls)
	}
}

// TestAccessRights: P4.4: each byte's own Write and Exec.
func TestAccessRights(t *testing.T) {
	m := few(t)
	put(t, m, 12288, 2, 0x5005, 4, 0x5001, 5, 0x5007)
	number(t, "P4.4: the last byte not to be written", 0, Store(m, 4096, 0x3FFF, 2, 7), 0, fail(api.ErrWrite, 0x4000))
	number(t, "P4.4: the first byte not to be written", 0, Store(m, 4096, 0x2FFF, 2, 7), 0, fail(api.ErrWrite, 0x2FFF))
	n, f := Fetch(m, 4096, 0x2FFE, 4)
	number(t, "P4.4: the third byte not to be fetched", n, f, 0, fail(api.ErrExec, 0x3000))
	n, f = Fetch(m, 4096, 0x4FFE, 4)
	number(t, "P4.4: the first byte not to be fetched", n, f, 0, fail(api.ErrExec, 0x4FFE))
	n, f = Load(m, 4096, 0x2FFC, 8)
	number(t, "P4.4: all to be loaded", n, f, 0, none)
	if m.Loads() != 8 || m.Stores() != 6 {
		t.Errorf("P4.4: %d loads, %d stores", m.Loads(), m.Stores())
	}
}

// TestAccessBytes: P4.4 and P4.5: the bytes of each width, lowest first, over
// two pages that lie apart, and what the memory is asked for.
func TestAccessBytes(t *testing.T) {
	const value = 0x8877665544332211
	for _, width := range []int{1, 2, 4, 8} {
		for back := range uint64(9) {
			virt := 0x4000 - back
			m := few(t)
			put(t, m, 12288, 3, 0x5007, 4, 0x4007)
			var where []uint64
			for i := range uint64(width) {
				at := 0x5000 + (virt+i)%4096
				if virt+i >= 0x4000 {
					at = 0x4000 + (virt+i)%4096
				}
				where = append(where, at)
			}
			seen := note(m)
			number(t, "P4.4: Store", 0, Store(seen, 4096, virt, width, value), 0, none)
			var want []asked
			for i, at := range where {
				want = append(want, asked{true, at, 1, value >> (8 * i) & 0xFF})
			}
			if !slices.Equal(seen.calls, want) {
				t.Errorf("P4.5: Store(%#x, %d) asked for %v, want %v", virt, width, seen.calls, want)
			}
			want = nil
			for _, at := range where {
				want = append(want, asked{at: at, width: 1})
			}
			before := all(t, m)
			for _, take := range []func(Memory, uint64, uint64, int) (uint64, api.Fault){Load, Fetch} {
				seen.calls = nil
				n, f := take(seen, 4096, virt, width)
				number(t, "P4.4: Load, Fetch", n, f, uint64(value)<<(64-8*width)>>(64-8*width), none)
				if !slices.Equal(seen.calls, want) {
					t.Errorf("P4.5: Load(%#x, %d) asked for %v, want %v", virt, width, seen.calls, want)
				}
			}
			if all(t, m) != before {
				t.Errorf("P4.5: Load and Fetch changed the memory")
			}
		}
	}
}

// TestStoreIntoTables: P4.4: all bytes are translated ahead of the first that
// is stored: a Store takes away the entry that it goes through.
func TestStoreIntoTables(t *testing.T) {
	m := few(t)
	put(t, m, 12288, 5, 0x3003) // the table itself, for writing, at 0x5000
	number(t, "P4.4: Store", 0, Store(m, 4096, 0x5000+5*8, 8, 0x1122334455667700), 0, none)
	n, f := m.Peek(12288+5*8, 8)
	number(t, "P4.4: the entry", n, f, 0x1122334455667700, none)
	n, f = Load(m, 4096, 0x5000, 1)
	number(t, "P4.4: behind it", n, f, 0, fail(api.ErrAbsent, 0x5000))
}

// TestStoreTwice: P4.4: two virtual pages of one frame, and a memory in which
// several addresses are one byte: the later one stands there.
func TestStoreTwice(t *testing.T) {
	m := few(t)
	put(t, m, 12288, 4, 0x5003)
	number(t, "P4.4: Store", 0, Store(m, 4096, 0x3FFC, 8, 0x8877665544332211), 0, none)
	n, f := m.Peek(0x5FFC, 4)
	number(t, "P4.4: the frame's end", n, f, 0x44332211, none)
	n, f = m.Peek(0x5000, 4)
	number(t, "P4.4: the frame's beginning", n, f, 0x88776655, none)
	n, f = Load(m, 4096, 0x3FFE, 4)
	number(t, "P4.4: Load", n, f, 0x66554433, none)

	var held uint64
	folded := other{
		peek:  m.Peek,
		load:  func(at uint64) (uint64, api.Fault) { return held, none },
		store: func(at, value uint64) api.Fault { held = value; return none },
	}
	number(t, "P4.4: Store", 0, Store(folded, 4096, 0x3000, 4, 0x44332211), 0, none)
	n, f = Load(folded, 4096, 0x3000, 2)
	number(t, "P4.4: the later one stands", n, f, 0x4444, none)
}

// TestOtherMemory: of a memory that is not right each call ends.
func TestOtherMemory(t *testing.T) {
	for _, always := range []uint64{0, 1, 0x1001, 0x1003, 0x200009, 0x20000F, math.MaxUint64} {
		for _, f := range []api.Fault{none, {At: 7}, fail(api.ErrBus, 0), fail(-1, 9)} {
			asks := 0
			m := other{
				peek:  func(uint64, int) (uint64, api.Fault) { asks++; return always + uint64(asks)*4096, f },
				load:  func(uint64) (uint64, api.Fault) { return always, f },
				store: func(uint64, uint64) api.Fault { return f },
			}
			for range 8 {
				Translate(m, 4096, 0x3000, api.Load)
				Load(m, 4096, 0x3FFC, 8)
				Fetch(m, 4096, 0x3FFC, 8)
				Store(m, 4096, 0x3FFC, 8, always)
				n := 0
				for range Leaves(m, 4096, 5000) {
					n++
				}
				if n > 5000 {
					t.Errorf("P4.6: %d told", n)
				}
			}
		}
	}
}

// TestOtherRefusals: a memory that refuses, in the fourth part, what its Peek
// took: the access is not said to be done.
func TestOtherRefusals(t *testing.T) {
	m := few(t)
	put(t, m, 12288, 3, 0x5007)
	bad := other{
		peek: m.Peek,
		load: func(at uint64) (uint64, api.Fault) {
			if at == 0x5002 {
				return 9, fail(api.ErrBus, at)
			}
			return 0x1FF, none
		},
		store: func(at, value uint64) api.Fault {
			if at == 0x5002 {
				return fail(api.ErrBus, at)
			}
			return none
		},
	}
	refused(t, "in the fourth part", bad, 4096, 0x3000, 4, fail(api.ErrBus, 0x3002))
	n, f := Load(bad, 4096, 0x3000, 2)
	number(t, "bytes that are more than a byte", n, f, 0xFFFF, none)
}

package bus

import (
	"bytes"
	"testing"

	"bulkhead/api"
)

// model is a machine of a byte an address, that is asked byte by byte.
type model struct {
	bus                   api.Bus
	bytes                 map[uint64]byte
	loads, stores, strays int
}

// on tells whether a byte is on the bus.
func (m *model) on(at uint64) bool {
	for _, l := range [][]api.Range{m.bus.Rams, m.bus.Devices} {
		for _, r := range l {
			if at >= r.At && at-r.At < r.Size {
				return true
			}
		}
	}
	return false
}

// ask tells the Fault of an access of n bytes.
func (m *model) ask(at uint64, n int) api.Fault {
	for i := range n {
		if !m.on(at + uint64(i)) {
			m.strays++
			return api.Fault{Why: api.ErrBus, At: at + uint64(i)}
		}
	}
	return api.Fault{}
}

// read tells n bytes.
func (m *model) read(at uint64, n int) ([]byte, api.Fault) {
	f := m.ask(at, n)
	if f.Why != api.OK {
		return nil, f
	}
	var b []byte
	for i := range n {
		b = append(b, m.bytes[at+uint64(i)])
	}
	return b, f
}

// write lays bytes down.
func (m *model) write(at uint64, b []byte) api.Fault {
	f := m.ask(at, len(b))
	if f.Why != api.OK {
		return f
	}
	for i, x := range b {
		m.bytes[at+uint64(i)] = x
	}
	return f
}

// load tells a number.
func (m *model) load(at uint64, width int) (uint64, api.Fault) {
	b, f := m.read(at, width)
	var n uint64
	for i, x := range b {
		n |= uint64(x) << (8 * i)
	}
	return n, f
}

// store lays a number down.
func (m *model) store(at uint64, width int, value uint64) api.Fault {
	var b []byte
	for i := range width {
		b = append(b, byte(value>>(8*i)))
	}
	return m.write(at, b)
}

// kept tells how many pages hold a byte that is not 0.
func (m *model) kept() int {
	held := map[uint64]int{}
	for at, x := range m.bytes {
		if x != 0 {
			held[at/api.Page]++
		}
	}
	return len(held)
}

// dice makes numbers of which each hangs on those ahead of it.
type dice uint64

// below tells a number below n.
func (d *dice) below(n uint64) uint64 {
	*d = *d*6364136223846793005 + 1442695040888963407
	return uint64(*d>>33) % n
}

// place tells an address: mostly about an end of a range or of the addresses.
func (d *dice) place(b api.Bus) uint64 {
	ends := []uint64{0, 1 << 32}
	for _, l := range [][]api.Range{b.Rams, b.Devices} {
		for _, r := range l {
			ends = append(ends, r.At, r.At+r.Size, r.At+4096)
		}
	}
	return ends[d.below(uint64(len(ends)))] + d.below(24) - 12
}

// value tells a number, often one of zeros.
func (d *dice) value() uint64 {
	if d.below(2) == 0 {
		return 0
	}
	return d.below(1<<31)<<33 ^ d.below(1<<31)
}

// TestModel: whatever is asked of a machine, the model answers the same.
func TestModel(t *testing.T) {
	for i, b := range []api.Bus{
		{},
		{Rams: list(r(4096, 8192)), Devices: list(r(12288, 4096))},
		{Rams: list(r(8192, 4096), r(0, 4096)), Devices: list(r(4096, 4096), r(16384, 4096))},
		{Rams: list(r(1<<32-4096, 4096), r(0, 12288))},
		{Devices: list(r(1<<20, 8192), r(1<<32-8192, 8192))},
	} {
		m, d := made(t, b), dice(i)
		want := &model{bus: b, bytes: map[uint64]byte{}}
		for n := range 4000 {
			step(t, m, want, &d)
			if n%16 == 0 && m.Kept() != want.kept() {
				t.Fatalf("P3.7: bus %d, step %d: %d kept, want %d", i, n, m.Kept(), want.kept())
			}
			if n%500 == 0 {
				c := m.Clone()
				m.Fill(d.place(b), int(d.below(9000)), 0xC3)
				m = c
				want.loads, want.stores, want.strays = 0, 0, 0
			}
			if t.Failed() {
				t.Fatalf("bus %d, step %d", i, n)
			}
		}
	}
}

// step asks one thing of both.
func step(t *testing.T, m *Machine, want *model, d *dice) {
	t.Helper()
	at, width, value := d.place(want.bus), 1<<d.below(4), d.value()
	size := int(d.below(40))
	if d.below(8) == 0 {
		size = int(d.below(9000))
	}
	switch d.below(7) {
	case 0:
		n, f := m.Load(at, width)
		wantN, wantF := want.load(at, width)
		number(t, "Load", n, f, wantN, wantF)
		if f == none {
			want.loads++
		}
	case 1:
		n, f := m.Peek(at, width)
		wantN, wantF := want.load(at, width)
		number(t, "Peek", n, f, wantN, wantF)
	case 2:
		f := m.Store(at, width, value)
		number(t, "Store", 0, f, 0, want.store(at, width, value))
		if f == none {
			want.stores++
		}
	case 3:
		b, f := m.Read(at, size)
		wantB, wantF := want.read(at, size)
		number(t, "Read", 0, f, 0, wantF)
		if !bytes.Equal(b, wantB) {
			t.Errorf("Read(%d, %d): %x, want %x", at, size, b, wantB)
		}
	case 4:
		row := make([]byte, size)
		for i := range row {
			row[i] = byte(value >> (i % 8 * 8))
		}
		number(t, "Write", 0, m.Write(at, row), 0, want.write(at, row))
	case 5:
		number(t, "Fill", 0, m.Fill(at, size, uint8(value)), 0, want.write(at, bytes.Repeat([]byte{uint8(value)}, size)))
	case 6:
		s, ok := m.Where(at)
		if ok != want.on(at) || ok != (s.Kind != 0) {
			t.Errorf("Where(%d): %v %v", at, s, ok)
		}
	}
	meter(t, "by the model", m, want.loads, want.stores, want.strays)
}

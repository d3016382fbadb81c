package bus

import (
	"bytes"
	"math"
	"testing"

	"bulkhead/api"
)

// none is the Fault of an access that is done.
var none = api.Fault{}

// off is the Fault of a byte that is off the bus.
func off(at uint64) api.Fault { return api.Fault{Why: api.ErrBus, At: at} }

// meter holds the Meter against what it must tell.
func meter(t *testing.T, where string, m *Machine, loads, stores, strays int) {
	t.Helper()
	if m.Loads() != loads || m.Stores() != stores || m.Strays() != strays {
		t.Errorf("P3.6: %s: %d, %d, %d, want %d, %d, %d", where, m.Loads(), m.Stores(), m.Strays(), loads, stores, strays)
	}
}

// number holds a number and its Fault against what they must be.
func number(t *testing.T, where string, n uint64, f api.Fault, want uint64, fault api.Fault) {
	t.Helper()
	if n != want || f != fault {
		t.Errorf("%s: %#x %v, want %#x %v", where, n, f, want, fault)
	}
}

func TestRuns(t *testing.T) {
	m := example(t)
	if f := m.Store(4096, 8, 0x0102030405060708); f != none {
		t.Errorf("Store: %v", f)
	}
	n, f := m.Load(4097, 2)
	number(t, "Load(4097, 2)", n, f, 0x0607, none)
	n, f = m.Load(4095, 2)
	number(t, "Load(4095, 2)", n, f, 0, off(4095))
	meter(t, "one stray", m, 1, 1, 1)
	n, f = m.Load(16380, 8)
	number(t, "Load(16380, 8)", n, f, 0, off(16384))
	n, f = m.Load(top, 4)
	number(t, "Load(2^64 - 1, 4)", n, f, 0, off(top))
	meter(t, "three strays", m, 1, 1, 3)
	n, f = m.Load(5, 3)
	number(t, "Load(5, 3)", n, f, 0, api.Fault{Why: api.ErrWidth, At: 5})
	n, f = m.Peek(4096, 8)
	number(t, "Peek(4096, 8)", n, f, 0x0102030405060708, none)
	meter(t, "a width, a Peek", m, 1, 1, 3)
	if f := m.Write(16384, nil); f != none {
		t.Errorf("Write(16384, nil): %v", f)
	}
	if f := m.Fill(0, 0, 9); f != none {
		t.Errorf("Fill(0, 0, 9): %v", f)
	}
	if b, f := m.Read(4096, -1); len(b) != 0 || f != (api.Fault{Why: api.ErrArg, At: 4096}) {
		t.Errorf("Read(4096, -1): %v %v", b, f)
	}
	m = example(t)
	if f := m.Store(12284, 8, top); f != none || m.Kept() != 2 {
		t.Errorf("Store over two grounds: %v, %d", f, m.Kept())
	}
	n, f = m.Peek(12284, 8)
	number(t, "Peek over two grounds", n, f, top, none)
	m = made(t, api.Bus{Rams: list(r(0, 4096))})
	n, f = m.Load(4088, 8)
	number(t, "Load(4088, 8)", n, f, 0, none)
	n, f = m.Load(4089, 8)
	number(t, "Load(4089, 8)", n, f, 0, off(4096))
}

func TestWidths(t *testing.T) {
	m := example(t)
	for _, w := range []int{1, 2, 4, 8} {
		m.Fill(4096, 16, 0xEE)
		if f := m.Store(4100, w, 0x8877665544332211); f != none {
			t.Errorf("P3.4: Store of %d: %v", w, f)
		}
		want := append(bytes.Repeat([]byte{0xEE}, 4), []byte{0x11, 0x22, 0x33, 0x44, 0x55, 0x66, 0x77, 0x88}[:w]...)
		want = append(want, bytes.Repeat([]byte{0xEE}, 12-w)...)
		if b, _ := m.Read(4096, 16); !bytes.Equal(b, want) {
			t.Errorf("P3.4: Store of %d laid %x", w, b)
		}
		mask := uint64(math.MaxUint64) >> (64 - 8*w)
		n, f := m.Load(4100, w)
		number(t, "P3.4: Load", n, f, 0x8877665544332211&mask, none)
		n, f = m.Peek(4100, w)
		number(t, "P3.4: Peek", n, f, 0x8877665544332211&mask, none)
	}
	meter(t, "four widths", m, 4, 4, 0)
	before := everything(t, m)
	for _, w := range []int{0, 3, 5, 6, 7, 9, 16, 255, 257, 264, 1 << 32, 1<<32 + 1, -1, -8, math.MaxInt, math.MinInt} {
		for _, at := range []uint64{4096, 0, 16384, top} {
			fault := api.Fault{Why: api.ErrWidth, At: at}
			n, f := m.Load(at, w)
			number(t, "P3.4: Load of a width that is none", n, f, 0, fault)
			n, f = m.Peek(at, w)
			number(t, "P3.4: Peek of a width that is none", n, f, 0, fault)
			if f := m.Store(at, w, top); f != fault {
				t.Errorf("P3.4: Store of a width that is none: %v", f)
			}
		}
	}
	same(t, "R3: refused Stores", m, before)
	meter(t, "widths that are none", m, 4, 4, 0)
}

// TestRefusedWhole: each kind of access, at places where its first byte, its
// last one, one between, or all of them are off the bus.
func TestRefusedWhole(t *testing.T) {
	m := made(t, api.Bus{Rams: list(r(4096, 8192), r(20480, 4096)), Devices: list(r(12288, 4096))})
	m.Fill(4096, 12288, 0x55)
	m.Fill(20480, 4096, 0x66)
	low, _ := m.Read(4096, 12288)
	high, _ := m.Read(20480, 4096)
	strays := 0
	for _, c := range []struct {
		at    uint64
		n     int
		first uint64
	}{
		{4095, 1, 4095}, {4095, 2, 4095}, {4090, 8, 4090}, {0, 8, 0},
		{16380, 8, 16384}, {16383, 2, 16384}, {16384, 1, 16384}, {16383, 8, 16384},
		{20479, 2, 20479}, {20476, 8, 20476}, {24575, 2, 24576}, {24576, 4, 24576},
		{top, 1, top}, {top, 2, top}, {top - 3, 8, top - 3}, {1<<32 + 4096, 1, 1<<32 + 4096},
	} {
		n, f := m.Load(c.at, c.n)
		number(t, "P3.3: Load", n, f, 0, off(c.first))
		n, f = m.Peek(c.at, c.n)
		number(t, "P3.3: Peek", n, f, 0, off(c.first))
		if f := m.Store(c.at, c.n, top); f != off(c.first) {
			t.Errorf("P3.3: Store(%d, %d): %v", c.at, c.n, f)
		}
		refusedRows(t, m, c.at, c.n, c.first)
		strays += 6
	}
	for _, c := range []struct {
		at    uint64
		n     int
		first uint64
	}{
		{4096, 12289, 16384}, {4096, 20480, 16384}, {4095, 20480, 4095}, {12288, 8192, 16384},
		{4096, 1 << 20, 16384}, {top, 4098, top}, {top - 4095, 8193, top - 4095},
	} {
		refusedRows(t, m, c.at, c.n, c.first)
		strays += 3
	}
	meter(t, "refused whole", m, 0, 0, strays)
	for _, at := range []uint64{4096, 20480} {
		want := map[uint64][]byte{4096: low, 20480: high}[at]
		if b, _ := m.Read(at, len(want)); !bytes.Equal(b, want) {
			t.Errorf("P3.3: a refused access laid bytes")
		}
	}
}

// refusedRows holds that Read, Fill and Write are refused, and where.
func refusedRows(t *testing.T, m *Machine, at uint64, n int, first uint64) {
	t.Helper()
	if b, f := m.Read(at, n); len(b) != 0 || f != off(first) {
		t.Errorf("P3.3: Read(%d, %d): %d bytes, %v", at, n, len(b), f)
	}
	if f := m.Fill(at, n, 1); f != off(first) {
		t.Errorf("P3.3: Fill(%d, %d): %v", at, n, f)
	}
	if f := m.Write(at, make([]byte, n)); f != off(first) {
		t.Errorf("P3.3: Write(%d, %d): %v", at, n, f)
	}
}

// TestHugeCounts: a count is asked ahead of the memory that it would take.
func TestHugeCounts(t *testing.T) {
	m := example(t)
	for _, n := range []int{1 << 32, 1<<32 + 8, 1 << 40, math.MaxInt - 1, math.MaxInt} {
		for _, c := range [][2]uint64{{4096, 16384}, {12288, 16384}, {16383, 16384}, {0, 0}, {4095, 4095}, {top, top}, {top / 2, top / 2}, {top/2 + 2, top/2 + 2}} {
			if b, f := m.Read(c[0], n); len(b) != 0 || f != off(c[1]) {
				t.Errorf("P3.3: Read(%d, %d): %v", c[0], n, f)
			}
			if f := m.Fill(c[0], n, 1); f != off(c[1]) {
				t.Errorf("P3.3: Fill(%d, %d): %v", c[0], n, f)
			}
		}
	}
	if m.Kept() != 0 || m.Strays() != 80 {
		t.Errorf("P3.3: %d kept, %d strays", m.Kept(), m.Strays())
	}
}

// TestEndOfTheBus: up to its last byte, and beyond it.
func TestEndOfTheBus(t *testing.T) {
	m := made(t, api.Bus{Rams: list(r(0, 4096)), Devices: list(r(1<<32-4096, 4096))})
	if f := m.Store(1<<32-8, 8, top); f != none {
		t.Errorf("P3.3: Store: %v", f)
	}
	n, f := m.Load(1<<32-1, 1)
	number(t, "P3.3: the last byte", n, f, 0xFF, none)
	n, f = m.Load(1<<32-1, 2)
	number(t, "P3.3: beyond it", n, f, 0, off(1<<32))
	n, f = m.Load(1<<32, 1)
	number(t, "P3.3: no wrap at 2^32", n, f, 0, off(1<<32))
	n, f = m.Load(top-1, 4)
	number(t, "P3.3: at 0 on the bus, ahead of it off", n, f, 0, off(top-1))
	if f := m.Write(top, []byte{1, 1}); f != off(top) || m.Kept() != 1 {
		t.Errorf("P3.3: Write over the wrap: %v", f)
	}
}

func TestNoBytes(t *testing.T) {
	m := example(t)
	for _, at := range []uint64{0, 4095, 4096, 12288, 16383, 16384, 1 << 32, top} {
		if b, f := m.Read(at, 0); len(b) != 0 || f != none {
			t.Errorf("P3.3: Read(%d, 0): %v %v", at, b, f)
		}
		if f := m.Fill(at, 0, 9); f != none {
			t.Errorf("P3.3: Fill(%d, 0): %v", at, f)
		}
		if m.Write(at, nil) != none || m.Write(at, []byte{}) != none || m.Write(at, []byte{1}[:0]) != none {
			t.Errorf("P3.3: Write(%d) of nothing", at)
		}
	}
	if m.Kept() != 0 {
		t.Errorf("P3.3: %d kept", m.Kept())
	}
	meter(t, "no bytes", m, 0, 0, 0)
}

func TestCountsBelowNothing(t *testing.T) {
	m := example(t)
	m.Fill(4096, 12288, 3)
	before := everything(t, m)
	for _, n := range []int{-1, -8, -4096, math.MinInt} {
		for _, at := range []uint64{0, 4096, 16384, top} {
			fault := api.Fault{Why: api.ErrArg, At: at}
			if b, f := m.Read(at, n); len(b) != 0 || f != fault {
				t.Errorf("P3.5: Read(%d, %d): %v %v", at, n, b, f)
			}
			if f := m.Fill(at, n, 1); f != fault {
				t.Errorf("P3.5: Fill(%d, %d): %v", at, n, f)
			}
		}
	}
	same(t, "R3: refused Fills", m, before)
	meter(t, "counts below 0", m, 0, 0, 0)
}

func TestRows(t *testing.T) {
	m := example(t)
	if f := m.Fill(4096, 12288, 0xAB); f != none {
		t.Errorf("P3.5: Fill: %v", f)
	}
	if f := m.Write(8000, bytes.Repeat([]byte{1, 2, 3}, 2000)); f != none {
		t.Errorf("P3.5: Write: %v", f)
	}
	if f := m.Fill(8190, 4100, 0); f != none {
		t.Errorf("P3.5: Fill: %v", f)
	}
	want := bytes.Repeat([]byte{0xAB}, 12288)
	copy(want[8000-4096:], bytes.Repeat([]byte{1, 2, 3}, 2000))
	clear(want[8190-4096 : 8190-4096+4100])
	same(t, "P3.5: three pages", m, want)
	for _, n := range []int{1, 2, 4095, 4096, 4097, 8192, 8193} {
		for _, at := range []uint64{4096, 4097, 8000, 8190} {
			if b, f := m.Read(at, n); f != none || !bytes.Equal(b, want[at-4096:int(at)-4096+n]) {
				t.Errorf("P3.5: Read(%d, %d): %v", at, n, f)
			}
		}
	}
	meter(t, "rows", m, 0, 0, 0)
}

// TestRowsAreTheirOwn: neither a row that was handed in nor one that was
// answered is the machine's, its spare room among it.
func TestRowsAreTheirOwn(t *testing.T) {
	m := example(t)
	whole := bytes.Repeat([]byte{5}, 4100)
	in := whole[:4096]
	m.Write(4096, in)
	if !bytes.Equal(whole, bytes.Repeat([]byte{5}, 4100)) {
		t.Errorf("R2: Write changed what was handed in")
	}
	clear(whole)
	out, _ := m.Read(4096, 4096)
	if !bytes.Equal(out, bytes.Repeat([]byte{5}, 4096)) {
		t.Errorf("R2: Write kept what was handed in")
	}
	clear(out[:cap(out)])
	if n, f := m.Peek(4096, 8); n != 0x0505050505050505 || f != none {
		t.Errorf("R2: Read handed out the machine's own")
	}
	m.Fill(8192, 4096, 6)
	again, _ := m.Read(8192, 4096)
	m.Fill(8192, 4096, 7)
	if again[0] != 6 || again[4095] != 6 {
		t.Errorf("R2: a later Fill is seen in what Read answered")
	}
}

func TestMeter(t *testing.T) {
	m := example(t)
	meter(t, "new", m, 0, 0, 0)
	m.Load(4096, 8)
	m.Load(4096, 1)
	meter(t, "two Loads", m, 2, 0, 0)
	m.Store(4096, 8, 1)
	meter(t, "a Store", m, 2, 1, 0)
	m.Peek(4096, 8)
	m.Read(4096, 8)
	m.Write(4096, []byte{1})
	m.Fill(4096, 8, 1)
	m.Kept()
	m.Bus()
	m.Clone()
	m.Where(0)
	meter(t, "what doesn't count", m, 2, 1, 0)
	m.Load(0, 8)
	meter(t, "a refused Load", m, 2, 1, 1)
	m.Store(0, 8, 1)
	meter(t, "a refused Store", m, 2, 1, 2)
	m.Peek(0, 8)
	meter(t, "a refused Peek", m, 2, 1, 3)
	m.Read(0, 8)
	meter(t, "a refused Read", m, 2, 1, 4)
	m.Write(0, []byte{1})
	meter(t, "a refused Write", m, 2, 1, 5)
	m.Fill(0, 8, 1)
	meter(t, "a refused Fill", m, 2, 1, 6)
	m.Load(4096, 3)
	m.Store(0, 0, 1)
	m.Peek(0, -1)
	m.Read(0, -1)
	m.Fill(0, -1, 1)
	meter(t, "refused for another reason", m, 2, 1, 6)
	var alone *Meter = &m.Meter
	if alone.Loads() != 2 || alone.Stores() != 1 || alone.Strays() != 6 {
		t.Errorf("P3.6: the Meter is the Machine's")
	}
}

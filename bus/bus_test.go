package bus

import (
	"math"
	"slices"
	"testing"

	"bulkhead/api"
)

// top is the highest address.
const top = math.MaxUint64

// r is Size bytes from at on.
func r(at, size uint64) api.Range { return api.Range{At: at, Size: size} }

// list makes a list of ranges.
func list(rs ...api.Range) []api.Range { return rs }

// made makes a machine of a bus that may be.
func made(t *testing.T, b api.Bus) *Machine {
	t.Helper()
	m, why := New(b)
	if why != api.OK || m == nil {
		t.Fatalf("New(%v): %v", b, why)
	}
	return m
}

// example is the chapter's bus: two pages of RAM from 4096 on, and, touching
// it, a device of one page.
func example(t *testing.T) *Machine {
	t.Helper()
	return made(t, api.Bus{Rams: list(r(4096, 8192)), Devices: list(r(12288, 4096))})
}

// row makes n ranges of a page each, with a page between each two.
func row(n int, from uint64) []api.Range {
	var rs []api.Range
	for i := range n {
		rs = append(rs, r(from+uint64(i)*8192, 4096))
	}
	return rs
}

func TestNewTakes(t *testing.T) {
	for _, c := range []struct {
		name string
		b    api.Bus
	}{
		{"nothing", api.Bus{}},
		{"lists of nothing", api.Bus{Rams: list(), Devices: list()}},
		{"no RAM", api.Bus{Devices: list(r(0, 4096))}},
		{"no device", api.Bus{Rams: list(r(0, 4096))}},
		{"as many as may be", api.Bus{Rams: row(8, 0), Devices: row(32, 1<<20)}},
		{"the last page", api.Bus{Rams: list(r(1<<32-4096, 4096))}},
		{"a window's last page", api.Bus{Devices: list(r(1<<32-1<<20, 1<<20))}},
		{"a whole window", api.Bus{Devices: list(r(0, 1<<20))}},
		{"a span beyond a window's most", api.Bus{Rams: list(r(0, 1<<20+4096))}},
		{"all RAM in one", api.Bus{Rams: list(r(0, 1<<26))}},
		{"all RAM in two", api.Bus{Rams: list(r(1<<25, 1<<25), r(0, 1<<25))}},
		{"all RAM, and windows", api.Bus{Rams: list(r(0, 1<<26)), Devices: list(r(1<<26, 1<<20), r(1<<31, 1<<20))}},
		{"touching, rising", api.Bus{Rams: list(r(0, 4096), r(4096, 4096)), Devices: list(r(8192, 4096))}},
		{"touching, falling", api.Bus{Rams: list(r(8192, 4096), r(4096, 4096)), Devices: list(r(0, 4096))}},
		{"just between two", api.Bus{Rams: list(r(0, 4096), r(8192, 4096), r(4096, 4096))}},
	} {
		m, why := New(c.b)
		if why != api.OK || m == nil {
			t.Errorf("P3.1: %s: %v", c.name, why)
			continue
		}
		if m.Kept() != 0 || m.Loads() != 0 || m.Stores() != 0 || m.Strays() != 0 {
			t.Errorf("P3.1: %s: not new", c.name)
		}
		if b := m.Bus(); !slices.Equal(b.Rams, c.b.Rams) || !slices.Equal(b.Devices, c.b.Devices) {
			t.Errorf("P3.1: %s: Bus: %v", c.name, b)
		}
	}
}

func TestNewRefusesOne(t *testing.T) {
	for _, c := range []struct {
		name string
		one  api.Range
		ram  api.Errno
		dev  api.Errno
	}{
		{"no size", r(0, 0), api.ErrSize, api.ErrSize},
		{"no size, anywhere", r(top, 0), api.ErrSize, api.ErrSize},
		{"an odd size", r(0, 4097), api.ErrSize, api.ErrSize},
		{"half a page", r(0, 2048), api.ErrSize, api.ErrSize},
		{"one byte less", r(0, 8191), api.ErrSize, api.ErrSize},
		{"an odd size at an odd place", r(1, 4097), api.ErrSize, api.ErrSize},
		{"an odd size beyond", r(1<<32, 4097), api.ErrSize, api.ErrSize},
		{"all but one byte", r(0, top), api.ErrSize, api.ErrSize},
		{"above a window's most", r(0, 1<<20+4096), api.OK, api.ErrSize},
		{"above a window's most at an odd place", r(1, 1<<20+4096), api.ErrAlign, api.ErrSize},
		{"above a window's most, beyond", r(1<<32, 1<<20+4096), api.ErrPhys, api.ErrSize},
		{"an odd place", r(1, 4096), api.ErrAlign, api.ErrAlign},
		{"half a page on", r(2048, 4096), api.ErrAlign, api.ErrAlign},
		{"an odd place beyond", r(1<<32+1, 4096), api.ErrAlign, api.ErrAlign},
		{"the odd place at the top", r(top, 4096), api.ErrAlign, api.ErrAlign},
		{"the first page beyond", r(1<<32, 4096), api.ErrPhys, api.ErrPhys},
		{"over the end", r(1<<32-4096, 8192), api.ErrPhys, api.ErrPhys},
		{"up to the top", r(top-4095, 4096), api.ErrPhys, api.ErrPhys},
		{"over the top, to 4095", r(top-4095, 8192), api.ErrPhys, api.ErrPhys},
		{"all but a page", r(4096, top-4095), api.ErrPhys, api.ErrSize},
		{"over the top, all but two pages", r(8192, top-4095), api.ErrPhys, api.ErrSize},
		{"all that there is", r(0, 1<<32), api.ErrRam, api.ErrSize},
		{"one page above all RAM", r(0, 1<<26+4096), api.ErrRam, api.ErrSize},
	} {
		if m, why := New(api.Bus{Rams: list(c.one)}); why != c.ram || (m == nil) != (why != api.OK) {
			t.Errorf("P3.1: %s: RAM: %v, want %v", c.name, why, c.ram)
		}
		if m, why := New(api.Bus{Devices: list(c.one)}); why != c.dev || (m == nil) != (why != api.OK) {
			t.Errorf("P3.1: %s: window: %v, want %v", c.name, why, c.dev)
		}
	}
}

func TestNewRefusesSeveral(t *testing.T) {
	wrong := row(33, 1)
	for _, c := range []struct {
		name string
		b    api.Bus
		want api.Errno
	}{
		{"nine spans", api.Bus{Rams: row(9, 0)}, api.ErrMany},
		{"33 windows", api.Bus{Devices: row(33, 0)}, api.ErrMany},
		{"nine wrong spans", api.Bus{Rams: wrong[:9]}, api.ErrMany},
		{"33 windows behind a wrong span", api.Bus{Rams: wrong[:1], Devices: row(33, 0)}, api.ErrMany},
		{"a wrong window behind nine spans", api.Bus{Rams: row(9, 0), Devices: wrong[:1]}, api.ErrMany},
		{"the same twice", api.Bus{Rams: list(r(0, 4096), r(0, 4096))}, api.ErrOverlap},
		{"one within", api.Bus{Rams: list(r(0, 12288), r(4096, 4096))}, api.ErrOverlap},
		{"one around", api.Bus{Rams: list(r(4096, 4096), r(0, 12288))}, api.ErrOverlap},
		{"the last page of one", api.Bus{Rams: list(r(0, 8192), r(4096, 8192))}, api.ErrOverlap},
		{"the first page of one", api.Bus{Rams: list(r(4096, 8192), r(0, 8192))}, api.ErrOverlap},
		{"one of two ahead", api.Bus{Rams: list(r(0, 4096), r(8192, 4096), r(4096, 8192))}, api.ErrOverlap},
		{"a window in RAM", api.Bus{Rams: list(r(0, 8192)), Devices: list(r(4096, 4096))}, api.ErrOverlap},
		{"two windows", api.Bus{Devices: list(r(0, 8192), r(4096, 4096))}, api.ErrOverlap},
		{"beyond and the same", api.Bus{Rams: list(r(1<<32-4096, 4096), r(1<<32-4096, 8192))}, api.ErrPhys},
		{"an odd place within", api.Bus{Rams: list(r(0, 8192), r(1, 4096))}, api.ErrAlign},
		{"an odd size within", api.Bus{Rams: list(r(0, 8192), r(1, 1))}, api.ErrSize},
		{"the first wrong one: size, then place", api.Bus{Rams: list(r(0, 1), r(1, 4096))}, api.ErrSize},
		{"the first wrong one: place, then size", api.Bus{Rams: list(r(1, 4096), r(0, 1))}, api.ErrAlign},
		{"the first wrong one: overlap, then size", api.Bus{Rams: list(r(0, 4096), r(0, 4096), r(0, 1))}, api.ErrOverlap},
		{"the first wrong one: beyond, then size", api.Bus{Rams: list(r(1<<32, 4096), r(0, 1))}, api.ErrPhys},
		{"spans ahead of windows", api.Bus{Rams: list(r(0, 4096), r(1<<32, 4096)), Devices: list(r(0, 1))}, api.ErrPhys},
		{"a window behind right spans", api.Bus{Rams: list(r(0, 4096)), Devices: list(r(4096, 4096), r(1, 4096))}, api.ErrAlign},
		{"two spans of all RAM", api.Bus{Rams: list(r(0, 1<<26), r(1<<26, 1<<26))}, api.ErrRam},
		{"all RAM and a page", api.Bus{Rams: list(r(0, 1<<25), r(1<<25, 1<<25), r(1<<27, 4096))}, api.ErrRam},
		{"too much RAM, and a span behind it", api.Bus{Rams: list(r(0, 1<<27), r(1, 4096))}, api.ErrAlign},
		{"too much RAM, and a window behind it", api.Bus{Rams: list(r(0, 1<<27)), Devices: list(r(0, 4096))}, api.ErrOverlap},
		{"too much RAM, and right windows", api.Bus{Rams: list(r(0, 1<<27)), Devices: list(r(1<<27, 4096))}, api.ErrRam},
	} {
		if m, why := New(c.b); why != c.want || m != nil {
			t.Errorf("P3.1: %s: %v, want %v", c.name, why, c.want)
		}
	}
}

// TestBusIsItsOwn: neither the list that was handed in nor one that was
// answered is the machine's.
func TestBusIsItsOwn(t *testing.T) {
	both := list(r(0, 4096), r(8192, 4096), r(top, top))
	m := made(t, api.Bus{Rams: both[:1], Devices: both[1:2]})
	if both[1] != r(8192, 4096) || both[2] != r(top, top) {
		t.Errorf("R2: New changed what was handed in: %v", both)
	}
	both[0], both[1] = r(4096, 4096), r(16384, 4096)
	b := m.Bus()
	if b.Rams[0] != r(0, 4096) || b.Devices[0] != r(8192, 4096) {
		t.Errorf("R2: New kept what was handed in: %v", b)
	}
	clear(b.Rams[:cap(b.Rams)])
	clear(b.Devices[:cap(b.Devices)])
	c := m.Clone()
	for _, b := range []api.Bus{m.Bus(), c.Bus()} {
		if b.Rams[0] != r(0, 4096) || b.Devices[0] != r(8192, 4096) {
			t.Errorf("R2: Bus handed out the machine's own: %v", b)
		}
	}
	if _, ok := m.Where(4095); !ok || m.Store(8192, 1, 1).Why != api.OK {
		t.Errorf("R2: the machine's bus has changed")
	}
}

func TestBusOfNothing(t *testing.T) {
	m := made(t, api.Bus{})
	for _, at := range []uint64{0, 4096, 1<<32 - 1, 1 << 32, top} {
		if _, f := m.Load(at, 1); f != (api.Fault{Why: api.ErrBus, At: at}) {
			t.Errorf("P3.3: Load(%d): %v", at, f)
		}
		if s, ok := m.Where(at); ok || s != (api.Spot{}) {
			t.Errorf("P3.2: Where(%d): %v", at, s)
		}
		if f := m.Write(at, nil); f != (api.Fault{}) {
			t.Errorf("P3.3: Write(%d): %v", at, f)
		}
	}
	if c := m.Clone(); len(c.Bus().Rams)+len(c.Bus().Devices)+c.Kept() != 0 {
		t.Errorf("P3.8: %v", c.Bus())
	}
}

func TestWhere(t *testing.T) {
	m := made(t, api.Bus{
		Rams:    list(r(1<<32-8192, 8192), r(4096, 8192), r(12288, 4096)),
		Devices: list(r(1<<20, 1<<20), r(16384, 4096)),
	})
	for _, c := range []struct {
		at   uint64
		want api.Spot
	}{
		{4096, api.Spot{Kind: api.InRam, Index: 1}},
		{12287, api.Spot{Kind: api.InRam, Index: 1, Offset: 8191}},
		{12288, api.Spot{Kind: api.InRam, Index: 2}},
		{16383, api.Spot{Kind: api.InRam, Index: 2, Offset: 4095}},
		{16384, api.Spot{Kind: api.InDevice, Index: 1}},
		{20479, api.Spot{Kind: api.InDevice, Index: 1, Offset: 4095}},
		{1 << 20, api.Spot{Kind: api.InDevice, Index: 0}},
		{1<<21 - 1, api.Spot{Kind: api.InDevice, Index: 0, Offset: 1<<20 - 1}},
		{1<<32 - 8192, api.Spot{Kind: api.InRam, Index: 0}},
		{1<<32 - 1, api.Spot{Kind: api.InRam, Index: 0, Offset: 8191}},
	} {
		if s, ok := m.Where(c.at); !ok || s != c.want {
			t.Errorf("P3.2: Where(%d): %v %v, want %v", c.at, s, ok, c.want)
		}
	}
	for _, at := range []uint64{0, 4095, 20480, 1<<20 - 1, 1 << 21, 1<<32 - 8193, 1 << 32, 1<<32 + 4096, top - 4095, top} {
		if s, ok := m.Where(at); ok || s != (api.Spot{}) {
			t.Errorf("P3.2: Where(%d): %v %v", at, s, ok)
		}
	}
	if m.Strays() != 0 {
		t.Errorf("P3.6: Where is no access: %d", m.Strays())
	}
}

func TestKept(t *testing.T) {
	m := example(t)
	kept := func(what string, want int) {
		t.Helper()
		if n := m.Kept(); n != want {
			t.Errorf("P3.7: %s: %d, want %d", what, n, want)
		}
	}
	kept("a new machine", 0)
	m.Fill(4096, 12288, 0)
	m.Store(4096, 8, 0)
	m.Write(8190, make([]byte, 5))
	kept("zeros laid on zeros", 0)
	m.Read(4096, 12288)
	kept("read", 0)
	m.Fill(4096, 4096, 1)
	kept("one page", 1)
	m.Store(8191, 1, 2)
	kept("the same page", 1)
	m.Fill(4096, 4095, 0)
	kept("all but one byte 0 again", 1)
	m.Store(8191, 1, 0)
	kept("all 0 again", 0)
	m.Store(12284, 8, top)
	kept("RAM and device", 2)
	m.Store(12284, 4, 0)
	kept("the device alone", 1)
	m.Write(12288, []byte{0, 0, 0, 0})
	kept("none", 0)
	m.Store(12284, 8, 1)
	kept("a number whose upper half is 0", 1)
	m.Store(12284, 8, 1<<40)
	kept("a number whose lower half is 0, on one that isn't", 1)
	m.Store(12288, 4, 0)
	m.Store(12284, 8, 1<<40)
	kept("a number whose lower half is 0", 1)
	m.Write(4096, []byte{1})
	m.Write(8192, []byte{1})
	kept("all three", 3)
	m.Store(16380, 8, 0)
	m.Fill(4095, 12289, 0)
	m.Write(4096, make([]byte, 12289))
	kept("refused", 3)
	m.Fill(4096, 12288, 0)
	kept("all of it 0", 0)
}

func TestKeptOfAll(t *testing.T) {
	m := made(t, api.Bus{Rams: list(r(0, 1<<26))})
	if f := m.Fill(0, 1<<26, 7); f != (api.Fault{}) || m.Kept() != 1<<14 {
		t.Errorf("P3.7: %v, %d", f, m.Kept())
	}
	if n, f := m.Load(1<<26-8, 8); n != 0x0707070707070707 || f != (api.Fault{}) {
		t.Errorf("P3.5: %x %v", n, f)
	}
	if f := m.Fill(1, 1<<26-1, 0); f != (api.Fault{}) || m.Kept() != 1 {
		t.Errorf("P3.7: %v, %d", f, m.Kept())
	}
}

func TestClone(t *testing.T) {
	m := example(t)
	m.Write(8190, []byte{1, 2, 3, 4})
	m.Fill(12288, 4096, 9)
	m.Load(8190, 1)
	m.Store(8190, 1, 1)
	m.Load(0, 1)
	c := m.Clone()
	if c == m || c.Loads() != 0 || c.Stores() != 0 || c.Strays() != 0 {
		t.Errorf("P3.8: a clone's Meter: %d, %d, %d", c.Loads(), c.Stores(), c.Strays())
	}
	if m.Loads() != 1 || m.Stores() != 1 || m.Strays() != 1 {
		t.Errorf("P3.8: the first one's Meter: %d, %d, %d", m.Loads(), m.Stores(), m.Strays())
	}
	if b := c.Bus(); !slices.Equal(b.Rams, m.Bus().Rams) || !slices.Equal(b.Devices, m.Bus().Devices) {
		t.Errorf("P3.8: its bus: %v", b)
	}
	same(t, "P3.8: a clone", c, everything(t, m))
}

// everything tells all bytes of the chapter's bus.
func everything(t *testing.T, m *Machine) []byte {
	t.Helper()
	b, f := m.Read(4096, 12288)
	if f != (api.Fault{}) || len(b) != 12288 {
		t.Fatalf("Read: %v", f)
	}
	return b
}

// same holds all bytes of the chapter's bus against what they must be.
func same(t *testing.T, where string, m *Machine, want []byte) {
	t.Helper()
	for i, x := range everything(t, m) {
		if x != want[i] {
			t.Fatalf("%s: %d at %d, want %d", where, x, 4096+i, want[i])
		}
	}
}

// TestCloneByTurns: the machine and its clone go on each for itself, in pages
// that both had, that one of them had, and that none had.
func TestCloneByTurns(t *testing.T) {
	m := example(t)
	m.Fill(4096, 4096, 1)
	c := m.Clone()
	d := c.Clone()
	of := [3][]byte{everything(t, m), everything(t, c), everything(t, d)}
	for i, step := range []struct {
		who int
		at  uint64
		n   int
		v   uint8
	}{
		{0, 4096, 8, 2}, {1, 4100, 8, 3}, {2, 4096, 4096, 0}, {0, 8192, 1, 4}, {1, 8193, 1, 5},
		{1, 4096, 12288, 0}, {0, 12280, 16, 6}, {2, 12288, 4096, 7}, {0, 4096, 12288, 8}, {1, 5000, 1, 9},
	} {
		turn := []*Machine{m, c, d}[step.who]
		if f := turn.Fill(step.at, step.n, step.v); f != (api.Fault{}) {
			t.Fatalf("P3.5: Fill: %v", f)
		}
		for j := range step.n {
			of[step.who][int(step.at)-4096+j] = step.v
		}
		for j, x := range []*Machine{m, c, d} {
			same(t, "P3.8: by turns", x, of[j])
			if x.Kept() != heldIn(of[j]) {
				t.Errorf("P3.7: behind step %d machine %d keeps %d", i, j, x.Kept())
			}
		}
	}
	c.Load(4096, 1)
	c.Load(4095, 1)
	d.Store(4096, 1, 1)
	if m.Loads()+m.Stores()+m.Strays() != 0 || c.Loads() != 1 || c.Stores() != 0 || c.Strays() != 1 || d.Stores() != 1 || d.Loads() != 0 {
		t.Errorf("P3.8: each has a Meter of its own")
	}
}

// heldIn tells how many pages of bytes hold one that is not 0.
func heldIn(b []byte) int {
	n := 0
	for p := range slices.Chunk(b, api.Page) {
		if slices.ContainsFunc(p, func(x byte) bool { return x != 0 }) {
			n++
		}
	}
	return n
}

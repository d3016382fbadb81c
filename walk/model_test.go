package walk

import (
	"math/rand"
	"slices"
	"testing"

	"bulkhead/api"
	"bulkhead/bus"
)

// model is the chapter once more, byte by byte, over a map of all bytes on the
// bus.
type model map[uint64]byte

// copied makes the model of a machine.
func copied(t *testing.T, m *bus.Machine) model {
	t.Helper()
	o := model{}
	for _, r := range m.Bus().Rams {
		b, f := m.Read(r.At, int(r.Size))
		if f != none {
			t.Fatalf("Read: %v", f)
		}
		for i, x := range b {
			o[r.At+uint64(i)] = x
		}
	}
	return o
}

// entry tells what the entry at an address says.
func (o model) entry(at uint64, level int) (api.Entry, api.Errno) {
	var e uint64
	for i := range uint64(8) {
		b, ok := o[at+i]
		if !ok {
			return api.Entry{}, api.ErrTable
		}
		e |= uint64(b) << (8 * i)
	}
	return says(e, level)
}

// translate tells a physical address.
func (o model) translate(root, virt uint64, access int) (uint64, api.Errno) {
	if access < 1 || access > 3 {
		return 0, api.ErrArg
	}
	if virt>>39 != 0 {
		return 0, api.ErrHole
	}
	if root&4095 != 0 {
		return 0, api.ErrTable
	}
	e, why := o.entry(root+virt>>30<<3, 0)
	if why == api.OK {
		e, why = o.entry(e.Frame+virt>>21&511<<3, 1)
	}
	if why == api.OK && e.Table {
		e, why = o.entry(e.Frame+virt>>12&511<<3, 2)
	}
	switch {
	case why != api.OK:
		return 0, why
	case access == api.Store && !e.Write:
		return 0, api.ErrWrite
	case access == api.Fetch && !e.Exec:
		return 0, api.ErrExec
	case e.Big:
		return e.Frame | virt&0x1FFFFF, api.OK
	}
	return e.Frame | virt&0xFFF, api.OK
}

// access tells the addresses of an access' bytes.
func (o model) access(root, virt uint64, width, access int) ([]uint64, api.Fault) {
	if width != 1 && width != 2 && width != 4 && width != 8 {
		return nil, fail(api.ErrWidth, virt)
	}
	var l []uint64
	for i := range uint64(width) {
		at, why := o.translate(root, virt+i, access)
		if why != api.OK {
			return nil, fail(why, virt+i)
		}
		l = append(l, at)
	}
	for i, at := range l {
		if _, ok := o[at]; !ok {
			return nil, fail(api.ErrBus, virt+uint64(i))
		}
	}
	return l, none
}

// leaves lists what is counted, in its order: an entry that names a table is
// an empty one. It ends at most.
func (o model) leaves(l []told, table, virt uint64, level, most int) []told {
	size := []uint64{1 << 30, 1 << 21, 1 << 12}[level]
	for i := uint64(0); i < 512 && len(l) < most; i++ {
		e, why := o.entry(table+8*i, level)
		at := virt + i*size
		switch {
		case why == api.ErrAbsent:
		case why != api.OK:
			l = append(l, hole(at, int(size/4096)))
		case e.Table:
			l = append(l, told{})
			l = o.leaves(l, e.Frame, at, level+1, most)
		default:
			l = append(l, told{leaf: api.Leaf{Virt: at, Phys: e.Frame, Pages: int(size / 4096), Big: e.Big, Write: e.Write, Exec: e.Exec}})
		}
	}
	return l
}

// tangle makes a machine of few pages that are tables, one of another, with
// entries of all kinds at their first, their last and one inner number.
func tangle(t *testing.T, r *rand.Rand) *bus.Machine {
	t.Helper()
	m := machine(t, api.Range{At: 0x1000, Size: 0x5000}, api.Range{At: 0x7000, Size: 0x2000}, api.Range{At: 0x200000, Size: 0x1000})
	frames := []uint64{0x1000, 0x2000, 0x3000, 0x4000, 0x5000, 0x6000, 0x7000, 0x200000, 0x80000000}
	for table := uint64(0x1000); table < 0x9000; table += 0x1000 {
		if table == 0x6000 {
			continue
		}
		for _, i := range []uint64{0, 1, 2, 77, 510, 511} {
			e := frames[r.Intn(len(frames))] | 1
			switch r.Intn(8) {
			case 0:
				e = 0
			case 1:
				e = e&^1 | uint64(r.Intn(16))<<1
			case 2:
				e |= 1 << r.Intn(64)
			case 3:
				e |= uint64(r.Intn(8)) << 1
			case 4:
				e = 0x200009 | uint64(r.Intn(4))<<1
			}
			put(t, m, table, i, e)
		}
	}
	return m
}

// somewhere tells a virtual address, mostly at an end of what a tangle maps.
func somewhere(r *rand.Rand) uint64 {
	numbers := []uint64{0, 1, 2, 3, 77, 510, 511}
	pick := func() uint64 { return numbers[r.Intn(len(numbers))] }
	virt := pick()<<30 | pick()<<21 | pick()<<12 | uint64(r.Intn(4096))
	switch r.Intn(8) {
	case 0:
		return virt &^ 0xFFF
	case 1, 2, 3:
		return virt | 0xFF8 | uint64(r.Intn(8))
	case 4:
		return virt | uint64(r.Intn(2))<<(39+r.Intn(25))
	}
	return virt
}

// TestModel: P4.3 to P4.6 over tables at random: the machine's answers, its
// bytes and its Meter are the model's.
func TestModel(t *testing.T) {
	r := rand.New(rand.NewSource(4))
	roots := []uint64{0x1000, 0x1000, 0x2000, 0x3000, 0x4000, 0x5000, 0x7000, 0x8000, 0x6000, 0x1008}
	widths := []int{1, 1, 2, 2, 4, 4, 8, 8, 3}
	met := map[api.Errno]int{}
	for range 60 {
		m := tangle(t, r)
		o := copied(t, m)
		for range 1200 {
			root := roots[r.Intn(len(roots))]
			virt, access := somewhere(r), r.Intn(5)
			at, f := Translate(m, root, virt, access)
			want, why := o.translate(root, virt, access)
			if at != want || f.Why != why || why != api.OK && f.At != virt {
				t.Fatalf("P4.3: Translate(%#x, %#x, %d): %#x %v, want %#x %v", root, virt, access, at, f, want, why)
			}
			met[step(t, r, m, o, root, virt, widths[r.Intn(len(widths))]).Why]++
		}
		for at, b := range o {
			if n, _ := m.Peek(at, 1); n != uint64(b) {
				t.Fatalf("P4.4: the byte at %#x: %#x, want %#x", at, n, b)
			}
		}
		for _, most := range []int{1, 2, 10, 100, 1000} {
			counted := o.leaves(nil, 0x1000, 0, 0, most)
			want := slices.DeleteFunc(counted, func(x told) bool { return x == told{} })
			tells(t, "at random", m, 0x1000, most, want...)
		}
	}
	for _, why := range []api.Errno{api.OK, api.ErrHole, api.ErrTable, api.ErrAbsent, api.ErrWrite, api.ErrExec, api.ErrBus, api.ErrWidth} {
		if met[why] < 20 {
			t.Errorf("only %d accesses met %v", met[why], why)
		}
	}
}

// step does an access at random on the machine and on the model.
func step(t *testing.T, r *rand.Rand, m *bus.Machine, o model, root, virt uint64, width int) api.Fault {
	t.Helper()
	loads, stores := m.Loads(), m.Stores()
	access := 1 + r.Intn(3)
	where, want := o.access(root, virt, width, access)
	var n, must uint64
	var f api.Fault
	switch access {
	case api.Load:
		n, f = Load(m, root, virt, width)
		loads += len(where)
	case api.Fetch:
		n, f = Fetch(m, root, virt, width)
		loads += len(where)
	case api.Store:
		value := r.Uint64()
		f = Store(m, root, virt, width, value)
		stores += len(where)
		for i, at := range where {
			o[at] = byte(value >> (8 * i))
		}
	}
	if access != api.Store {
		for i, at := range where {
			must |= uint64(o[at]) << (8 * i)
		}
	}
	number(t, "P4.4: at random", n, f, must, want)
	if m.Loads() != loads || m.Stores() != stores {
		t.Fatalf("P4.5: %d loads, %d stores, want %d, %d", m.Loads(), m.Stores(), loads, stores)
	}
	return f
}

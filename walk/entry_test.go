package walk

import (
	"math"
	"testing"

	"bulkhead/api"
)

// says is what an entry says, read off the chapter bit by bit.
func says(e uint64, level int) (api.Entry, api.Errno) {
	on := func(bit int) bool { return e>>bit&1 == 1 }
	if level != 0 && level != 1 && level != 2 {
		return api.Entry{}, api.ErrArg
	}
	if !on(0) {
		return api.Entry{}, api.ErrAbsent
	}
	for bit := range 64 {
		if on(bit) && bit > 3 && (bit < 12 || bit > 31) {
			return api.Entry{}, api.ErrTable
		}
	}
	at := e >> 12 << 12
	x := api.Entry{Frame: at, Write: on(1), Exec: on(2)}
	switch level {
	case 0:
		x.Table = true
		if on(1) || on(2) || on(3) {
			return api.Entry{}, api.ErrTable
		}
	case 1:
		x.Table, x.Big = !on(3), on(3)
		if x.Table && (on(1) || on(2)) || x.Big && at%(2<<20) != 0 {
			return api.Entry{}, api.ErrTable
		}
	case 2:
		if on(3) {
			return api.Entry{}, api.ErrTable
		}
	}
	return x, api.OK
}

// raws are all of an entry's low bits, over frames and bits above them.
func raws() []uint64 {
	highs := []uint64{0, 0x1000, 0x5000, 0x100000, 0x1FF000, 0x200000, 0x201000, 0x300000, 0x400000, 0x80000000, 0xFFE00000, 0xFFFFF000, 1 << 63, 0xFFFFFFFFFFFFF000}
	for bit := 32; bit < 64; bit++ {
		highs = append(highs, 1<<bit, 1<<bit|0x200000)
	}
	var l []uint64
	for _, high := range highs {
		for low := range uint64(4096) {
			l = append(l, high|low)
		}
	}
	return l
}

// TestEntry: P4.1, and P4.2's one half: Make of what Entry says.
func TestEntry(t *testing.T) {
	for _, level := range []int{0, 1, 2} {
		for _, e := range raws() {
			x, why := Entry(e, level)
			want, no := says(e, level)
			if x != want || why != no {
				t.Fatalf("P4.1: Entry(%#x, %d): %v %v, want %v %v", e, level, x, why, want, no)
			}
			if why != api.OK {
				continue
			}
			if back, no := Make(x, level); back != e || no != api.OK {
				t.Fatalf("P4.2: Make(%v, %d): %#x %v, want %#x", x, level, back, no, e)
			}
		}
	}
}

// TestEntryTable: P4.1: the chapter's runs, and each refusal ahead of those
// behind it.
func TestEntryTable(t *testing.T) {
	for _, c := range []struct {
		e     uint64
		level int
		want  api.Entry
		why   api.Errno
	}{
		{0x5003, 2, api.Entry{Frame: 0x5000, Write: true}, api.OK},
		{1, 2, api.Entry{}, api.OK},
		{1, 0, api.Entry{Table: true}, api.OK},
		{1, 1, api.Entry{Table: true}, api.OK},
		{9, 1, api.Entry{Big: true}, api.OK},
		{15, 1, api.Entry{Big: true, Write: true, Exec: true}, api.OK},
		{0xFFFFF007, 2, api.Entry{Frame: 0xFFFFF000, Write: true, Exec: true}, api.OK},
		{0xFFE0000B, 1, api.Entry{Frame: 0xFFE00000, Big: true, Write: true}, api.OK},
		{1 + 8 + 0x200000, 1, api.Entry{Frame: 0x200000, Big: true}, api.OK},
		{1 + 8 + 0x201000, 1, api.Entry{}, api.ErrTable},
		{1 + 8 + 0x100000, 1, api.Entry{}, api.ErrTable},
		{1 + 8 + 0x200000, 0, api.Entry{}, api.ErrTable},
		{1 + 8 + 0x200000, 2, api.Entry{}, api.ErrTable},
		{2, 2, api.Entry{}, api.ErrAbsent},
		{0, 0, api.Entry{}, api.ErrAbsent},
		{math.MaxUint64 - 1, 1, api.Entry{}, api.ErrAbsent},
		{math.MaxUint64, 1, api.Entry{}, api.ErrTable},
		{17, 0, api.Entry{}, api.ErrTable},
		{17, 1, api.Entry{}, api.ErrTable},
		{17, 2, api.Entry{}, api.ErrTable},
		{1 + 1<<11, 2, api.Entry{}, api.ErrTable},
		{1 + 1<<32, 2, api.Entry{}, api.ErrTable},
		{1 + 1<<63, 2, api.Entry{}, api.ErrTable},
		{1, 3, api.Entry{}, api.ErrArg},
		{1, -1, api.Entry{}, api.ErrArg},
		{0, 3, api.Entry{}, api.ErrArg},
		{17, math.MinInt, api.Entry{}, api.ErrArg},
		{17, math.MaxInt, api.Entry{}, api.ErrArg},
	} {
		if x, why := Entry(c.e, c.level); x != c.want || why != c.why {
			t.Errorf("P4.1: Entry(%#x, %d): %v %v, want %v %v", c.e, c.level, x, why, c.want, c.why)
		}
	}
}

// TestMake: P4.2: whatever an entry could say, Make answers the one that says
// it, or ErrTable where none does.
func TestMake(t *testing.T) {
	type said struct {
		level int
		entry api.Entry
	}
	known := map[said]uint64{}
	for level := range 3 {
		for _, e := range raws() {
			if x, why := says(e, level); why == api.OK {
				known[said{level, x}] = e
			}
		}
	}
	frames := []uint64{0, 1, 2, 4, 8, 15, 16, 0xFFF, 0x800, 0x1000, 0x1001, 0x5000, 0x1FF000, 0x200000, 0x200008, 0x201000, 0x400000, 0xFFE00000, 0xFFFFF000, 0xFFFFFFFF, 1 << 32, 1<<32 | 0x200000, 1 << 63, math.MaxUint64}
	for level := range 3 {
		for _, at := range frames {
			for bits := range 16 {
				x := api.Entry{Frame: at, Table: bits&1 != 0, Big: bits&2 != 0, Write: bits&4 != 0, Exec: bits&8 != 0}
				e, why := Make(x, level)
				want, ok := known[said{level, x}]
				if ok && (e != want || why != api.OK) || !ok && (e != 0 || why != api.ErrTable) {
					t.Errorf("P4.2: Make(%v, %d): %#x %v, want %#x %v", x, level, e, why, want, ok)
				}
			}
		}
	}
}

// TestMakeTable: P4.2: the chapter's runs, and levels that are none.
func TestMakeTable(t *testing.T) {
	for _, c := range []struct {
		entry api.Entry
		level int
		want  uint64
		why   api.Errno
	}{
		{api.Entry{Frame: 0x400000, Big: true, Exec: true}, 1, 0x40000D, api.OK},
		{api.Entry{Frame: 0x1000, Table: true}, 0, 0x1001, api.OK},
		{api.Entry{Frame: 0x1000, Table: true}, 1, 0x1001, api.OK},
		{api.Entry{Frame: 0x1000, Table: true}, 2, 0, api.ErrTable},
		{api.Entry{Frame: 0x1000}, 0, 0, api.ErrTable},
		{api.Entry{Frame: 0x1000}, 1, 0, api.ErrTable},
		{api.Entry{}, 2, 1, api.OK},
		{api.Entry{Frame: 0x200000, Big: true, Table: true}, 1, 0, api.ErrTable},
		{api.Entry{Frame: 0x1000, Table: true}, 3, 0, api.ErrArg},
		{api.Entry{Frame: 0x1001}, -1, 0, api.ErrArg},
		{api.Entry{Frame: 1 << 32}, math.MinInt, 0, api.ErrArg},
		{api.Entry{}, math.MaxInt, 0, api.ErrArg},
	} {
		if e, why := Make(c.entry, c.level); e != c.want || why != c.why {
			t.Errorf("P4.2: Make(%v, %d): %#x %v, want %#x %v", c.entry, c.level, e, why, c.want, c.why)
		}
	}
}

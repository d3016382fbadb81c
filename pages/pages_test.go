package pages

import (
	"math"
	"slices"
	"testing"

	"bulkhead/api"
)

// TestRowsRefused: P12.1: each refusal of a row, its edges, and which one goes
// ahead of which.
func TestRowsRefused(t *testing.T) {
	t.Parallel()
	const top = math.MaxUint64
	for _, c := range []struct {
		name string
		rows []api.Leaf
		want api.Errno
	}{
		{"no pages", []api.Leaf{row(0, 0, 0)}, api.ErrSize},
		{"below none", []api.Leaf{row(0, 0, -1)}, api.ErrSize},
		{"far below none", []api.Leaf{row(0, 0, math.MinInt)}, api.ErrSize},
		{"no big pages", []api.Leaf{bigRow(0, 0, 0)}, api.ErrSize},
		{"big ones below none", []api.Leaf{bigRow(0, 0, -512)}, api.ErrSize},
		{"a big one of 511", []api.Leaf{bigRow(0, 0, 511)}, api.ErrSize},
		{"a big one of 513", []api.Leaf{bigRow(0, 0, 513)}, api.ErrSize},
		{"a big one of 1", []api.Leaf{bigRow(0, 0, 1)}, api.ErrSize},
		{"the size ahead of all", []api.Leaf{row(top, top, 0)}, api.ErrSize},

		{"an odd virtual address", []api.Leaf{row(1, 0, 1)}, api.ErrAlign},
		{"half a page", []api.Leaf{row(2048, 0, 1)}, api.ErrAlign},
		{"an odd physical address", []api.Leaf{row(0, 4095, 1)}, api.ErrAlign},
		{"a big one at a page", []api.Leaf{bigRow(4096, 0, 512)}, api.ErrAlign},
		{"a big one at a mebibyte", []api.Leaf{bigRow(mib, 0, 512)}, api.ErrAlign},
		{"a big one's physical page", []api.Leaf{bigRow(0, 4096, 512)}, api.ErrAlign},
		{"a big one's physical mebibyte", []api.Leaf{bigRow(0, 3*mib, 512)}, api.ErrAlign},
		{"an odd address ahead of the hole", []api.Leaf{row(top, 0, 1)}, api.ErrAlign},
		{"an odd address ahead of physically beyond", []api.Leaf{row(1, api.MaxPhys, 1)}, api.ErrAlign},
		{"an odd physical address ahead of the hole", []api.Leaf{row(api.MaxVirt, 1, 1)}, api.ErrAlign},

		{"from the hole on", []api.Leaf{row(api.MaxVirt, 0, 1)}, api.ErrHole},
		{"into the hole", []api.Leaf{row(api.MaxVirt-4096, 0, 2)}, api.ErrHole},
		{"a page more than there are", []api.Leaf{row(0, 0, 1<<27+1)}, api.ErrHole},
		{"2^62 pages", []api.Leaf{row(0, 0, 1<<62)}, api.ErrHole},
		{"2^52 pages", []api.Leaf{row(0, 0, 1<<52)}, api.ErrHole},
		{"2^52 + 1 pages", []api.Leaf{row(0, 0, 1<<52+1)}, api.ErrHole},
		{"the most pages", []api.Leaf{row(0, 0, math.MaxInt)}, api.ErrHole},
		{"2^62 big pages", []api.Leaf{bigRow(0, 0, 1<<62)}, api.ErrHole},
		{"up to 2^64", []api.Leaf{row(top-4095, 0, 1)}, api.ErrHole},
		{"beyond 2^64", []api.Leaf{row(top-4095, 0, 2)}, api.ErrHole},
		{"a big one into the hole", []api.Leaf{bigRow(api.MaxVirt-2*mib, 0, 1024)}, api.ErrHole},
		{"the hole ahead of physically beyond", []api.Leaf{row(api.MaxVirt, api.MaxPhys, 1)}, api.ErrHole},

		{"from the physical end on", []api.Leaf{row(0, api.MaxPhys, 1)}, api.ErrPhys},
		{"beyond the physical end", []api.Leaf{row(0, api.MaxPhys-4096, 2)}, api.ErrPhys},
		{"a page more than there are physically", []api.Leaf{row(0, 0, 1<<20+1)}, api.ErrPhys},
		{"all virtual pages", []api.Leaf{row(0, 0, 1<<27)}, api.ErrPhys},
		{"physically up to 2^64", []api.Leaf{row(0, top-4095, 1)}, api.ErrPhys},
		{"physically beyond 2^64", []api.Leaf{row(0, top-4095, 2)}, api.ErrPhys},
		{"a big one beyond the physical end", []api.Leaf{bigRow(0, api.MaxPhys-2*mib, 1024)}, api.ErrPhys},
		{"physically beyond ahead of the order", []api.Leaf{row(0, 0, 1), row(0, api.MaxPhys, 1)}, api.ErrPhys},

		{"two that meet", []api.Leaf{row(0, 0, 2), row(4096, 0, 1)}, api.ErrOrder},
		{"one twice", []api.Leaf{row(0, 0, 1), row(0, 0, 1)}, api.ErrOrder},
		{"falling", []api.Leaf{row(8192, 0, 1), row(0, 0, 1)}, api.ErrOrder},
		{"falling, and touching", []api.Leaf{row(4096, 0, 1), row(0, 0, 1)}, api.ErrOrder},
		{"one in a big one", []api.Leaf{bigRow(0, 0, 512), row(2*mib-4096, 0, 1)}, api.ErrOrder},
		{"a big one over one", []api.Leaf{row(2*mib+4096, 0, 1), bigRow(2*mib, 0, 512)}, api.ErrOrder},
		{"the third", []api.Leaf{row(0, 0, 1), row(4096, 0, 2), row(8192, 0, 1)}, api.ErrOrder},
		{"below the first alone", []api.Leaf{row(4096, 0, 1), row(8192, 0, 1), row(0, 0, 1)}, api.ErrOrder},

		{"the first row decides", []api.Leaf{row(0, 0, 1), row(0, 0, 0), row(1, 0, 1)}, api.ErrSize},
		{"the first row's later refusal decides", []api.Leaf{row(0, api.MaxPhys, 1), row(0, 0, 0)}, api.ErrPhys},
		{"the order ahead of the next row's size", []api.Leaf{row(0, 0, 1), row(0, 0, 1), row(8192, 0, 0)}, api.ErrOrder},
		{"the size ahead of the order", []api.Leaf{row(4096, 0, 1), row(0, 0, 0)}, api.ErrSize},
		{"the hole ahead of the order", []api.Leaf{row(4096, 0, 1), row(0, 0, 1<<40)}, api.ErrHole},
		{"a row ahead of too many tables", append(each(1500, 2*mib), row(0, 0, 0)), api.ErrSize},
		{"the order ahead of too many tables", append(each(1500, 2*mib), row(0, 0, 1)), api.ErrOrder},
		{"the 513th GiB", each(1025, gib), api.ErrHole},
	} {
		holdRefused(t, c.name, c.rows, c.want)
		if why := refused(c.rows); why != c.want {
			t.Errorf("the model: %s: %v, want %v", c.name, why, c.want)
		}
	}
}

// TestRowsTaken: P12.1: what is just not refused, and how many tables it has.
func TestRowsTaken(t *testing.T) {
	t.Parallel()
	for _, c := range []struct {
		name string
		rows []api.Leaf
		want int
	}{
		{"nil", nil, 1},
		{"no rows", []api.Leaf{}, 1},
		{"a page", []api.Leaf{row(0, 0, 1)}, 3},
		{"the last page", []api.Leaf{row(api.MaxVirt-4096, 0, 1)}, 3},
		{"the last big page", []api.Leaf{bigRow(api.MaxVirt-2*mib, 0, 512)}, 2},
		{"the last physical page", []api.Leaf{row(0, api.MaxPhys-4096, 1)}, 3},
		{"the last physical big page", []api.Leaf{bigRow(0, api.MaxPhys-2*mib, 512)}, 2},
		{"all big pages", []api.Leaf{bigRow(0, 0, 1<<20)}, 5},
		{"two that touch", []api.Leaf{row(0, 0, 2), row(8192, 0, 1)}, 3},
		{"two at one physical place", []api.Leaf{row(0, 4096, 1), row(4096, 4096, 1)}, 3},
		{"physically falling", []api.Leaf{row(0, 8192, 1), row(4096, 4096, 1), row(8192, 0, 1)}, 3},
		{"a table's last page and the next one's first", []api.Leaf{row(2*mib-4096, 0, 2)}, 4},
		{"a table, whole", []api.Leaf{row(0, 0, 512)}, 3},
		{"over a GiB's end", []api.Leaf{row(gib-4096, 0, 2)}, 5},
		{"a big one over a GiB's end", []api.Leaf{bigRow(gib-2*mib, 0, 1024)}, 3},
		{"two rows in one table", []api.Leaf{row(0, 0, 1), row(2*mib-4096, 0, 1)}, 3},
		{"two rows in two tables", []api.Leaf{row(2*mib-4096, 0, 1), row(2*mib, 0, 1)}, 4},
		{"the second in the first one's last table", []api.Leaf{row(0, 0, 513), row(3*mib, 0, 257)}, 5},
		{"a big one behind a page, in one GiB", []api.Leaf{row(0, 0, 1), bigRow(2*mib, 0, 512)}, 3},
		{"a page behind a big one", []api.Leaf{bigRow(0, 0, 512), row(2*mib, 0, 1)}, 3},
		{"a big one between pages", []api.Leaf{row(0, 0, 1), bigRow(2*mib, 0, 512), row(4*mib, 0, 1)}, 4},
		{"big ones in two GiB", []api.Leaf{bigRow(0, 0, 512), bigRow(gib, 0, 512)}, 3},
		{"a page in a big one's GiB", []api.Leaf{bigRow(gib-2*mib, 0, 1024), row(gib+2*mib, 0, 1)}, 4},
		{"400 GiB", each(400, gib), 801},
		{"511 GiB", each(511, gib), 1023},
		{"600 tables over 300 GiB", each(600, gib/2), 1 + 300 + 600},
	} {
		holdCount(t, "P12.2: "+c.name, c.rows, c.want, api.OK)
	}
}

// TestMany: P12.1: 1024 tables, and one more; it comes behind each row's
// refusals, and ahead of base's.
func TestMany(t *testing.T) {
	t.Parallel()
	holdCount(t, "P12.1: 1024 tables", each(1021, 2*mib), 1024, api.OK)
	holdCount(t, "P12.1: 1025 tables", each(1022, 2*mib), 0, api.ErrMany)
	holdCount(t, "P12.1: 512 GiB", each(512, gib), 0, api.ErrMany)
	holdCount(t, "P12.1: all that a row may map", []api.Leaf{row(0, 0, 1<<20)}, 0, api.ErrMany)
	holdCount(t, "P12.1: one row of 1024 tables", []api.Leaf{row(0, 0, 1021*512)}, 1024, api.OK)
	holdCount(t, "P12.1: one row of 1025 tables", []api.Leaf{row(0, 0, 1021*512+1)}, 0, api.ErrMany)
	var whole []api.Leaf
	for i := range uint64(128) {
		whole = append(whole, row(i<<32, 0, 1<<20))
	}
	holdCount(t, "P12.1: every page", whole, 0, api.ErrMany)
	if got := Runs(whole); !slices.Equal(got, whole) {
		t.Errorf("P12.4: of too many tables: %d rows", len(got))
	}
	for i := range whole {
		whole[i].Big = true
	}
	holdCount(t, "P12.2: every big page", whole, 513, api.OK)
	for _, base := range []uint64{1, api.MaxPhys} {
		if list, why := Build(each(1022, 2*mib), base); why != api.ErrMany || len(list) != 0 {
			t.Errorf("P12.1: too many at %#x: %v", base, why)
		}
	}
}

// TestBase: P12.1: where the tables may lie.
func TestBase(t *testing.T) {
	t.Parallel()
	one := []api.Leaf{row(0, 0, 1)}
	for _, c := range []struct {
		rows []api.Leaf
		base uint64
		want api.Errno
	}{
		{nil, 0, api.OK},
		{nil, 1, api.ErrAlign},
		{nil, 4095, api.ErrAlign},
		{nil, 4096, api.OK},
		{nil, api.MaxPhys - 4096, api.OK},
		{nil, api.MaxPhys - 1, api.ErrAlign},
		{nil, api.MaxPhys, api.ErrPhys},
		{nil, api.MaxPhys + 1, api.ErrAlign},
		{nil, math.MaxUint64 - 4095, api.ErrPhys},
		{nil, math.MaxUint64, api.ErrAlign},
		{one, api.MaxPhys - 3*4096, api.OK},
		{one, api.MaxPhys - 2*4096, api.ErrPhys},
		{one, math.MaxUint64 - 4095, api.ErrPhys},
		{one, math.MaxUint64 - 2*4096 + 1, api.ErrPhys},
		{each(1021, 2*mib), api.MaxPhys - 1024*4096, api.OK},
		{each(1021, 2*mib), api.MaxPhys - 1023*4096, api.ErrPhys},
	} {
		many, _ := Count(c.rows)
		list, why := Build(c.rows, c.base)
		if why != c.want || (why == api.OK) != (len(list) == many) || why != api.OK && len(list) != 0 {
			t.Errorf("P12.1: %d tables at %#x: %d %v, want %v", many, c.base, len(list), why, c.want)
		}
	}
}

// TestTables: P12.2: the tables themselves, each entry.
func TestTables(t *testing.T) {
	t.Parallel()
	const base = 0x10000
	flags := func(r api.Leaf, write, exec bool) api.Leaf {
		r.Write, r.Exec = write, exec
		return r
	}
	holdTables(t, "no rows", nil, 4096, api.Table{})
	holdTables(t, "a page", []api.Leaf{flags(row(0x3000, 0x8000, 1), true, false)}, base,
		api.Table{0: 0x11001}, api.Table{0: 0x12001}, api.Table{3: 0x8003})
	holdTables(t, "flags", []api.Leaf{
		row(0, 0, 1), flags(row(0x1000, 0x1000, 1), true, false),
		flags(row(0x2000, 0x2000, 1), false, true), flags(row(0x3000, 0x3000, 1), true, true),
	}, base, api.Table{0: 0x11001}, api.Table{0: 0x12001}, api.Table{0: 1, 1: 0x1003, 2: 0x2005, 3: 0x3007})
	holdTables(t, "big flags", []api.Leaf{
		bigRow(0, 0, 512), flags(bigRow(2*mib, 4*mib, 512), true, false),
		flags(bigRow(4*mib, 2*mib, 512), false, true), flags(bigRow(6*mib, 0, 512), true, true),
	}, base, api.Table{0: 0x11001}, api.Table{0: 9, 1: 0x40000b, 2: 0x20000d, 3: 0xf})
	holdTables(t, "over two tables", []api.Leaf{row(0x1ff000, 0x8000, 2)}, base,
		api.Table{0: 0x11001}, api.Table{0: 0x12001, 1: 0x13001}, api.Table{511: 0x8001}, api.Table{0: 0x9001})
	holdTables(t, "a big one", []api.Leaf{bigRow(0, 0, 512)}, base, api.Table{0: 0x11001}, api.Table{0: 9})
	holdTables(t, "a big one behind a page", []api.Leaf{row(0x1000, 0x5000, 1), bigRow(gib-2*mib, 2*mib, 512)}, base,
		api.Table{0: 0x11001}, api.Table{0: 0x12001, 511: 0x200009}, api.Table{1: 0x5001})
	holdTables(t, "the last page, at the last place", []api.Leaf{row(api.MaxVirt-4096, api.MaxPhys-4096, 1)}, api.MaxPhys-3*4096,
		api.Table{511: 0xffffe001}, api.Table{511: 0xfffff001}, api.Table{511: 0xfffff001})
	holdTables(t, "over a GiB's end", []api.Leaf{row(gib-4096, 0x8000, 2)}, 0,
		api.Table{0: 0x1001, 1: 0x3001}, api.Table{511: 0x2001}, api.Table{511: 0x8001}, api.Table{0: 0x4001}, api.Table{0: 0x9001})
	holdTables(t, "a big one over a GiB's end", []api.Leaf{bigRow(gib-2*mib, 0, 1024)}, 0,
		api.Table{0: 0x1001, 1: 0x2001}, api.Table{511: 9}, api.Table{0: 0x200009})
	// Three levels: all of a GiB's tables stand ahead of the next GiB's.
	holdTables(t, "in pre-order", []api.Leaf{
		row(0, 0xa000, 1), bigRow(2*mib, 0, 512), row(4*mib, 0xb000, 1), row(3*gib, 0xc000, 1), row(5*gib+8*mib, 0xd000, 1),
	}, base,
		api.Table{0: 0x11001, 3: 0x14001, 5: 0x16001},
		api.Table{0: 0x12001, 1: 9, 2: 0x13001}, api.Table{0: 0xa001}, api.Table{0: 0xb001},
		api.Table{0: 0x15001}, api.Table{0: 0xc001},
		api.Table{4: 0x17001}, api.Table{0: 0xd001})
}

// TestRuns: P12.4.
func TestRuns(t *testing.T) {
	t.Parallel()
	is := func(r api.Leaf, big, write, exec bool) api.Leaf {
		r.Big, r.Write, r.Exec = big, write, exec
		return r
	}
	var flags [8]api.Leaf // one behind the other, and no two alike
	for i := range flags {
		flags[i] = is(row(uint64(i)*2*mib, uint64(i)*2*mib, 512), i&1 > 0, i&2 > 0, i&4 > 0)
	}
	type rows = []api.Leaf
	for _, c := range []struct {
		name       string
		rows, want rows
	}{
		{"nil", nil, nil},
		{"none", rows{}, nil},
		{"one", rows{row(0, 0, 1)}, rows{row(0, 0, 1)}},
		{"two as one", rows{row(0, 0, 1), row(4096, 4096, 1)}, rows{row(0, 0, 2)}},
		{"three as one", rows{row(0, 0, 1), row(4096, 4096, 1), row(8192, 8192, 5)}, rows{row(0, 0, 7)}},
		{"two and two", rows{row(0, 8192, 1), row(4096, 12288, 2), row(12288, 0, 3), row(24576, 12288, 1)}, rows{row(0, 8192, 3), row(12288, 0, 4)}},
		{"virtually alone", rows{row(0, 0, 1), row(4096, 8192, 1)}, rows{row(0, 0, 1), row(4096, 8192, 1)}},
		{"physically alone", rows{row(0, 0, 1), row(8192, 4096, 1)}, rows{row(0, 0, 1), row(8192, 4096, 1)}},
		{"at one physical place", rows{row(0, 0, 1), row(4096, 0, 1)}, rows{row(0, 0, 1), row(4096, 0, 1)}},
		{"not over one that stands between", rows{row(0, 0, 1), row(4096, 8192, 1), row(8192, 8192, 1)}, rows{row(0, 0, 1), row(4096, 8192, 1), row(8192, 8192, 1)}},
		{"over a table's end", rows{row(gib-4096, 0, 1), row(gib, 4096, 1)}, rows{row(gib-4096, 0, 2)}},
		{"big ones", rows{bigRow(0, 0, 512), bigRow(2*mib, 2*mib, 1024)}, rows{bigRow(0, 0, 1536)}},
		{"unlike flags", flags[:], flags[:]},
		{"flags alike", rows{is(row(0, 0, 1), false, true, true), is(row(4096, 4096, 1), false, true, true)}, rows{is(row(0, 0, 2), false, true, true)}},
		{"all physical pages", rows{row(0, 0, 1<<19), row(1<<31, 1<<31, 1<<19)}, rows{row(0, 0, 1<<20)}},
		{"the last page", rows{row(api.MaxVirt-8192, 0, 1), row(api.MaxVirt-4096, 4096, 1)}, rows{row(api.MaxVirt-8192, 0, 2)}},
		{"one is refused", rows{row(0, 0, 1), row(4096, 4096, 1), row(0, 0, 1)}, nil},
	} {
		if got := Runs(c.rows); !slices.Equal(got, c.want) {
			t.Errorf("P12.4: %s: %v, want %v", c.name, got, c.want)
		}
		if again := Runs(c.want); !slices.Equal(again, c.want) {
			t.Errorf("P12.4: %s: not the fewest: %v", c.name, again)
		}
	}
}

// TestBytes: P12.5.
func TestBytes(t *testing.T) {
	t.Parallel()
	var table api.Table
	for i := range table {
		table[i] = 0x0102030405060708 * uint64(i+1)
	}
	b := Bytes(table)
	if len(b) != 4096 {
		t.Fatalf("P12.5: %d bytes", len(b))
	}
	for i, x := range b {
		if want := byte(table[i/8] >> (i % 8 * 8)); x != want {
			t.Fatalf("P12.5: the byte %d: %#x, want %#x", i, x, want)
		}
	}
	if got, ok := Read(b); !ok || got != table {
		t.Errorf("P12.5: Read of them: %v", ok)
	}
	if b := Bytes(api.Table{}); !slices.Equal(b, make([]byte, 4096)) {
		t.Errorf("P12.5: the zero table's bytes")
	}
	// Bytes that no Build makes are a table's, too.
	for i := range b {
		b[i] = byte(7*i + i/256 + 0x80)
	}
	if got, ok := Read(b); !ok || !slices.Equal(Bytes(got), b) || got[0] != 0xb1aaa39c958e8780 {
		t.Errorf("P12.5: any bytes: %v %#x", ok, got[0])
	}
	for _, n := range []int{0, 1, 8, 4088, 4095} {
		if got, ok := Read(b[:n]); ok || got != (api.Table{}) {
			t.Errorf("P12.5: Read of %d bytes: %v", n, ok)
		}
	}
	for _, n := range []int{1, 8, 4096} {
		if got, ok := Read(append(slices.Clone(b), make([]byte, n)...)); ok || got != (api.Table{}) {
			t.Errorf("P12.5: Read of %d bytes: %v", 4096+n, ok)
		}
	}
	if got, ok := Read(nil); ok || got != (api.Table{}) {
		t.Errorf("P12.5: Read of nil: %v", ok)
	}
}

// TestMemory: R2: what is handed in is not changed, nor its spare room, and an
// answer shares memory with nothing.
func TestMemory(t *testing.T) {
	t.Parallel()
	all := []api.Leaf{row(0, 0, 1), row(4096, 4096, 1), row(8192, 8192, 1), row(1, 2, 3), row(4, 5, 6)}
	before := slices.Clone(all)
	rows := all[:3]
	one, _ := Build(rows, 0)
	runs := Runs(rows)
	Count(rows)
	if !slices.Equal(all, before) {
		t.Errorf("R2: the rows were changed: %v", all)
	}
	one[0][0], runs[0].Pages = 77, 77
	runs = append(runs, row(7, 7, 7))
	one = append(one, api.Table{})
	two, _ := Build(rows, 0)
	if again := Runs(rows); two[0][0] != 0x1001 || again[0].Pages != 3 || !slices.Equal(all, before) {
		t.Errorf("R2: answers share memory: %d tables, %v, %v", len(one), runs, all)
	}
	single := Runs(all[:1])
	single[0].Pages = 9
	if all[0].Pages != 1 {
		t.Error("R2: Runs answers the rows that it was given")
	}
	b := Bytes(one[0])
	spare := append(slices.Clone(b), 1, 2, 3)
	table, ok := Read(spare[:4096])
	if spare[0] = 99; !ok || table != one[0] || !slices.Equal(spare[4096:], []byte{1, 2, 3}) {
		t.Error("R2: Read")
	}
	table[0] = 5
	if c := Bytes(one[0]); !slices.Equal(b, c) || &b[0] == &c[0] {
		t.Error("R2: Bytes")
	}
}

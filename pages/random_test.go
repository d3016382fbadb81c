package pages

import (
	"fmt"
	"math"
	"math/rand"
	"slices"
	"testing"

	"bulkhead/api"
	"bulkhead/check"
	"bulkhead/walk"
)

func pick[T any](r *rand.Rand, list ...T) T { return list[r.Intn(len(list))] }

// maker makes rows at random: most touch the one ahead of them, or lie at an
// end of a table.
type maker struct{ *rand.Rand }

// row is one that is not refused, behind an address.
func (m maker) row(from uint64) api.Leaf {
	r := api.Leaf{Virt: from, Write: m.Intn(2) == 0, Exec: m.Intn(2) == 0, Big: m.Intn(4) == 0}
	unit := pick[uint64](m.Rand, 4096, 4096, 2*mib, gib)
	r.Virt += pick(m.Rand, 0, 0, 4096*uint64(m.Intn(3)), unit*uint64(m.Intn(3)))
	r.Pages = pick(m.Rand, 1, 1, 2, 1+m.Intn(20), 500+m.Intn(30), 1+m.Intn(1200))
	if m.Intn(3) == 0 {
		r.Virt = (r.Virt + unit - 1) / unit * unit
		r.Virt += unit - 4096*uint64(m.Intn(3))
	}
	step := uint64(4096)
	if r.Big {
		step, r.Pages = 2*mib, 512*(1+m.Intn(3))
		r.Virt = (r.Virt + step - 1) / step * step
	}
	top := api.MaxPhys - uint64(r.Pages)*4096
	r.Phys = pick(m.Rand, 0, top, uint64(m.Int63n(int64(top)))) / step * step
	return r
}

// rows are some, of which none is refused. Some go on one another physically,
// too.
func (m maker) rows() []api.Leaf {
	var rows []api.Leaf
	from := pick[uint64](m.Rand, 0, 0, 4096, 2*mib-4096, gib-4096, uint64(m.Intn(500))*gib)
	for range m.Intn(8) {
		r := m.row(from)
		if n := len(rows); n > 0 && m.Intn(3) == 0 {
			ahead := rows[n-1]
			r.Big, r.Write, r.Exec = ahead.Big, ahead.Write, ahead.Exec
			r.Virt, r.Phys = end(ahead), ahead.Phys+size(ahead)
			if r.Pages = 1 + m.Intn(5); r.Big {
				r.Pages *= 512
			}
			m.spoil(&r)
		}
		if refused(append(rows, r)) == api.OK {
			rows = append(rows, r)
			from = end(r)
		}
	}
	return rows
}

// spoil makes a row, which goes on another, such a one that doesn't: often.
func (m maker) spoil(r *api.Leaf) {
	switch m.Intn(8) {
	case 0:
		r.Write = !r.Write
	case 1:
		r.Exec = !r.Exec
	case 2:
		r.Phys += 2 * mib
	case 3:
		r.Virt += 2 * mib
	}
}

// wrong changes rows a little: mostly one is refused then.
func (m maker) wrong(rows []api.Leaf) []api.Leaf {
	rows = slices.Clone(rows)
	if len(rows) == 0 {
		rows = []api.Leaf{{Pages: 1}}
	}
	for range 1 + m.Intn(2) {
		r := &rows[m.Intn(len(rows))]
		far := pick[uint64](m.Rand, 0, api.MaxPhys, api.MaxVirt, math.MaxUint64-4095, 1<<63)
		near := pick[uint64](m.Rand, 0, 1, 4096, 2*mib, math.MaxUint64, math.MaxUint64-4095)
		switch m.Intn(6) {
		case 0:
			r.Virt = pick(m.Rand, r.Virt+near, far-near)
		case 1:
			r.Phys = pick(m.Rand, r.Phys+near, far-near)
		case 2:
			r.Pages = pick(m.Rand, 0, -1, r.Pages+1, r.Pages-1, 1<<20, 1<<27, 1<<52, 1<<62, math.MaxInt, math.MinInt)
		case 3:
			r.Big = !r.Big
		case 4:
			k := m.Intn(len(rows))
			*r, rows[k] = rows[k], *r
		case 5:
			rows = append(rows, *r)
		}
	}
	return rows
}

// split cuts rows in two, here and there: they map the same.
func (m maker) split(rows []api.Leaf) []api.Leaf {
	var out []api.Leaf
	for _, r := range rows {
		unit := 1
		if r.Big {
			unit = 512
		}
		for m.Intn(3) > 0 && r.Pages > unit {
			first := r
			first.Pages = unit * (1 + m.Intn(r.Pages/unit-1))
			out = append(out, first)
			r.Virt, r.Phys, r.Pages = end(first), first.Phys+size(first), r.Pages-first.Pages
		}
		out = append(out, r)
	}
	return out
}

// base is where tables may lie, mostly.
func (m maker) base() uint64 {
	return pick(m.Rand, 0, 4096, 0x10000, api.MaxPhys-4096*uint64(m.Intn(20)), 4096*uint64(m.Intn(1<<20)), uint64(m.Int63()))
}

// TestAtRandom: P12.1, P12.2, P12.4 against the chapter's words.
func TestAtRandom(t *testing.T) {
	t.Parallel()
	m := maker{rand.New(rand.NewSource(12))}
	told, joins := map[api.Errno]int{}, 0
	for range 3000 {
		rows := m.rows()
		if m.Intn(2) == 0 {
			rows = m.wrong(rows)
		}
		// The model needs a page's time for each: it is for what is small.
		if _, why := Count(rows); why == api.ErrMany || why == api.OK && mapped(rows) > 1<<14 {
			continue
		}
		told[m.holdRows(t, rows)]++
		if len(Runs(rows)) < len(rows) {
			joins++
		}
	}
	for _, why := range []api.Errno{api.OK, api.ErrSize, api.ErrAlign, api.ErrHole, api.ErrPhys, api.ErrOrder} {
		if told[why] < 50 {
			t.Errorf("%v was told %d times: the rows are too tame", why, told[why])
		}
	}
	if joins < 200 {
		t.Errorf("only %d lists had rows that are one", joins)
	}
}

// mapped counts the pages of rows.
func mapped(rows []api.Leaf) int {
	sum := 0
	for _, r := range rows {
		sum += r.Pages
	}
	return sum
}

// holdRows holds what all calls say of rows against the model.
func (m maker) holdRows(t *testing.T, rows []api.Leaf) api.Errno {
	t.Helper()
	before, base := slices.Clone(rows), m.base()
	list, why := Build(rows, base)
	want, e := built(rows, base)
	if why != e || !slices.Equal(list, want) {
		t.Fatalf("P12.1, P12.2: %d tables, %v, want %d, %v\n%#x %+v", len(list), why, len(want), e, base, rows)
	}
	anywhere, no := built(rows, 0)
	if n, e := Count(rows); e != no || n != len(anywhere) {
		t.Fatalf("P12.1, P12.2: Count: %d %v, want %d %v\n%+v", n, e, len(anywhere), no, rows)
	}
	runs := Runs(rows)
	if want := joined(rows); !slices.Equal(runs, want) {
		t.Fatalf("P12.4: %+v, want %+v\n%+v", runs, want, rows)
	}
	if refused(rows) == api.OK {
		if got, e := Build(runs, base); e != why || !slices.Equal(got, list) {
			t.Fatalf("P12.4: the runs are built otherwise: %v, %v\n%+v", e, why, rows)
		}
	}
	if !slices.Equal(rows, before) {
		t.Fatalf("R2: the rows were changed: %+v, they were %+v", rows, before)
	}
	return refused(rows)
}

// TestSplit: P12.4: rows that are cut in two have the Runs, Count and Build
// that they had.
func TestSplit(t *testing.T) {
	t.Parallel()
	m := maker{rand.New(rand.NewSource(4))}
	cuts := 0
	for range 2000 {
		rows := m.rows()
		cut := m.split(rows)
		cuts += len(cut) - len(rows)
		if a, b := Runs(rows), Runs(cut); !slices.Equal(a, b) || len(b) > len(rows) {
			t.Fatalf("P12.4: Runs: %+v, cut %+v\n%+v", a, b, cut)
		}
		n, why := Count(rows)
		if k, e := Count(cut); k != n || e != why {
			t.Fatalf("P12.4: Count: %d %v, cut %d %v\n%+v", n, why, k, e, cut)
		}
		base := m.base()
		one, why := Build(rows, base)
		if two, e := Build(cut, base); e != why || !slices.Equal(one, two) {
			t.Fatalf("P12.4: Build: %v, cut %v\n%+v", why, e, cut)
		}
	}
	if cuts < 2000 {
		t.Errorf("only %d cuts", cuts)
	}
}

// TestWalked: P12.3: what is walked is what the rows say.
func TestWalked(t *testing.T) {
	t.Parallel()
	m := maker{rand.New(rand.NewSource(3))}
	met := map[string]int{}
	for range 150 {
		rows := m.rows()
		base := uint64(m.Intn(1<<19)) * 4096
		list, why := Build(rows, base)
		if why != api.OK || len(list) > 60 {
			continue
		}
		mem := memory(t, list, base)
		var got []api.Leaf
		for l, why := range walk.Leaves(mem, base, 1<<20) {
			if why != api.OK {
				t.Fatalf("P12.3: Leaves tells %v at %#x\n%+v", why, l.Virt, rows)
			}
			got = append(got, l)
		}
		if want := leaves(rows); !slices.Equal(got, want) {
			t.Fatalf("P12.3: %d leaves, want %d\n%+v", len(got), len(want), rows)
		}
		for _, virt := range m.addresses(rows) {
			for access := api.Load; access <= api.Fetch; access++ {
				at, f := walk.Translate(mem, base, virt, access)
				want, e := translated(rows, virt, access)
				if at != want || f.Why != e {
					t.Fatalf("P12.3: %#x, access %d: %#x %v, want %#x %v\n%+v", virt, access, at, f, want, e, rows)
				}
				met[fmt.Sprint(access, e)]++
			}
		}
	}
	if len(met) != 3*3+2 {
		t.Errorf("not all was met: %v", met)
	}
	for what, n := range met {
		if n < 100 {
			t.Errorf("%s was met %d times", what, n)
		}
	}
}

// addresses are the ends of rows, of tables and of all, what lies beside them,
// and some others.
func (m maker) addresses(rows []api.Leaf) []uint64 {
	var out []uint64
	around := func(at uint64) { out = append(out, at-4096, at-1, at, at+1, at+4095, at+4096) }
	around(0)
	around(api.MaxVirt)
	for _, r := range rows {
		around(r.Virt)
		around(end(r))
		around(r.Virt / (2 * mib) * 2 * mib)
		around(end(r) / gib * gib)
		for range 8 {
			out = append(out, r.Virt+uint64(m.Int63n(int64(size(r)))), r.Virt+1<<(12+m.Intn(27)))
		}
	}
	return out
}

// TestEntries: P12.2, P12.3: of tables as many as may be each entry is 0 or may
// stand there, and each table but the root is named once, by one ahead of it.
func TestEntries(t *testing.T) {
	t.Parallel()
	const base = 0x8000000
	rows := append(each(500, 2*mib), bigRow(gib, 0, 1024), row(gib+1024*4096, 0, 512*300), row(5*gib-4096, 0, 2))
	list, why := Build(rows, base)
	if why != api.OK || len(list) < 800 {
		t.Fatalf("%d tables, %v", len(list), why)
	}
	levels := map[int]int{0: 0}
	for k, table := range list {
		level, ok := levels[k]
		if !ok {
			t.Fatalf("P12.2: no table ahead of it names the table %d", k)
		}
		filled := 0
		for i, raw := range table {
			if raw == 0 {
				continue
			}
			filled++
			e, why := walk.Entry(raw, level)
			if why != api.OK {
				t.Fatalf("P12.3: table %d, entry %d: %#x: %v", k, i, raw, why)
			}
			if !e.Table {
				continue
			}
			below := int(e.Frame-base) / 4096
			if _, twice := levels[below]; twice || below <= k || below >= len(list) {
				t.Fatalf("P12.2: table %d, entry %d names the table %d", k, i, below)
			}
			levels[below] = level + 1
		}
		if filled == 0 {
			t.Errorf("P12.2: nothing is mapped in the table %d", k)
		}
	}
}

// TestAsChecked: P12.2: Count of a space's rows is what check.Tables says of
// its maps, on which the size of an image hangs.
func TestAsChecked(t *testing.T) {
	t.Parallel()
	m := maker{rand.New(rand.NewSource(10))}
	for range 500 {
		var p api.Policy
		var maps []api.Map
		rows := m.rows()
		for i, r := range rows {
			name := fmt.Sprint("r.", i)
			p.Regions = append(p.Regions, api.Region{Name: name, Size: size(r), Big: r.Big})
			maps = append(maps, api.Map{Of: name, At: r.Virt, Write: r.Write, Exec: r.Exec})
		}
		m.Shuffle(len(maps), func(i, k int) { maps[i], maps[k] = maps[k], maps[i] })
		if n, why := Count(rows); why != api.OK || n != check.Tables(maps, p) {
			t.Fatalf("P12.2: %d tables, %v, want %d\n%+v", n, why, check.Tables(maps, p), rows)
		}
	}
}

// TestMuch: P12.1, P12.2, P12.4: far more rows than an image has.
func TestMuch(t *testing.T) {
	t.Parallel()
	var rows []api.Leaf
	for i := range uint64(1 << 20) {
		rows = append(rows, row(i*4096, i*4096, 1))
	}
	holdCount(t, "P12.2: as many tables as may be", rows[:1021*512], 1024, api.OK)
	holdCount(t, "P12.1: too many tables", rows, 0, api.ErrMany)
	if got := Runs(rows); !slices.Equal(got, []api.Leaf{row(0, 0, 1<<20)}) {
		t.Errorf("P12.4: %d rows", len(got))
	}
	rows = append(rows, row(0, 0, 1))
	holdRefused(t, "the last of many rows", rows, api.ErrOrder)
}

package kernel

import (
	"bytes"
	"testing"

	"bulkhead/api"
)

// wide is an image whose one subject maps a region of 2 MiB for writing at all
// addresses of so many tables, by big leaves; then at one page of its own.
func wide(tables int) api.Image {
	const base, region = 0, 4 << 20
	i := api.Image{
		Base:     base,
		Bus:      api.Bus{Rams: []api.Range{{At: 0, Size: 16 << 20}}},
		Subjects: []api.Tenant{{Rule: api.ByReset, To: -1}},
		Regions:  []api.Ground{{At: region, Size: 1 << 20, Text: "low"}, {At: region + 1<<20, Size: 512 << 10, Fill: 9}},
		Plans:    []api.Schedule{{Major: 1, Lanes: [][]api.Stint{{{Subject: 0, Ticks: 1}}, {{Subject: -1, Ticks: 1}}, {{Subject: -1, Ticks: 1}}, {{Subject: -1, Ticks: 1}}}}},
		Master:   -1,
		Tables:   make([]api.Table, 1+tables),
	}
	for n := range tables {
		i.Tables[0][n] = base + 4096*uint64(2+n) | 1
		for e := range 512 {
			i.Tables[1+n][e] = region | 1 | 2 | 8
		}
	}
	return i
}

// TestWide: P16.2, R1: a reset of one that maps a page at all addresses there
// are ends; of a big page that part alone is made new that lies in a region.
func TestWide(t *testing.T) {
	t.Parallel()
	const last = 480<<30 - 2<<20
	i := wide(480)
	m := machine(t, i.Bus)
	k, err := Boot(m, laid(t, i))
	if err != nil {
		t.Fatal(err)
	}
	for range 3 {
		play(t, "stores", k, row{store(0, 0, 8, 1<<64-1), fine}, row{store(0, last+1<<20, 2, 0xabcd), fine}, row{store(0, last+1<<20+512<<10-2, 4, 0x01020304), fine}, row{store(0, last+2<<20-1, 1, 7), fine},
			row{load(0, 1<<30+1<<20+512<<10, 2), value(0x0102)})
		play(t, "a reset", k, row{load(0, 480<<30, 1), fault(api.ErrAbsent, 480<<30)}, row{load(0, 0, 8), value('l' | 'o'<<8 | 'w'<<16)}, row{load(0, 1<<20, 2), value(0x0909)},
			row{load(0, 1<<20+512<<10-2, 4), value(0x01020909)}, row{load(0, 2<<20-1, 1), value(7)})
	}
}

// TestRegionsOfOthers: P16.2: of an image: pages that no region has, windows,
// and pages that another one writes stay; one page of a region is enough.
func TestRegionsOfOthers(t *testing.T) {
	t.Parallel()
	i := wide(1)
	i.Bus.Devices = []api.Range{{At: 16 << 20, Size: 4096}}
	i.Devices = []api.Port{{Root: -1}}
	i.Tables = append(i.Tables[:2], api.Table{})
	i.Tables[1] = api.Table{0: 4096*3 | 1}
	frames := []uint64{4<<20 + 8192 | 1 | 2, 5<<20 | 1, 5<<20 + 4096 | 1 | 2, 8<<20 | 1 | 2, 16<<20 | 1 | 2, 4<<20 | 1 | 2 | 4, 4<<20 + 8192 | 1}
	copy(i.Tables[2][:], frames)
	m := machine(t, i.Bus)
	m.Fill(8<<20, 4096, 0x55)
	k, err := Boot(m, laid(t, i))
	if err != nil {
		t.Fatal(err)
	}
	for n := range 6 {
		m.Fill(frames[n]&^0xfff, 4096, 0xee)
	}
	play(t, "a reset", k, row{load(0, 1<<20, 1), fault(api.ErrAbsent, 1<<20)})
	for n, want := range [][]byte{
		make([]byte, 4096), bytes.Repeat([]byte{0xee}, 4096), bytes.Repeat([]byte{9}, 4096), bytes.Repeat([]byte{0xee}, 4096), bytes.Repeat([]byte{0xee}, 4096),
		append([]byte("low"), make([]byte, 4093)...),
	} {
		if got, _ := m.Read(frames[n]&^0xfff, 4096); !bytes.Equal(got, want) {
			t.Errorf("P16.2: page %d holds %x.., want %x..", n, got[:4], want[:4])
		}
	}
}

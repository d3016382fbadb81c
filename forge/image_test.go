package forge

import (
	"math"
	"reflect"
	"slices"
	"testing"

	"bulkhead/api"
	"bulkhead/bundle"
	"bulkhead/place"
)

// wholeImage is what the image of the text whole says, but for its tables.
func wholeImage() api.Image {
	nobody := func(ticks int) []api.Stint { return []api.Stint{{Subject: -1, Ticks: ticks}} }
	return api.Image{
		Base: 0x107000,
		Bus: api.Bus{
			Rams:    []api.Range{{At: 0x200000, Size: 4 << 20}, {At: 0x100000, Size: 1 << 20}, {At: 0x8000000, Size: 64 << 10}},
			Devices: []api.Range{{At: 0xf0000000, Size: 8192}, {At: 0xf0100000, Size: 1 << 20}, {At: 0xf0300000, Size: 4096}},
		},
		Subjects: []api.Tenant{
			{CPU: 0, Root: 0, Rule: api.ByVector, To: 2, Vector: 63},
			{CPU: 3, Root: 5, Stopped: true, Rule: api.ByReset, To: -1},
			{CPU: 0, Root: 8, Rule: api.ByStop, To: -1},
			{CPU: 1, Root: 11, To: -1},
		},
		Devices: []api.Port{{Root: 12}, {Root: -1}, {Root: 16}},
		Regions: []api.Ground{
			{At: 0x8001000, Size: 8192},
			{At: 0x100000, Size: 12288, Fill: 0xfe},
			{At: 0x200000, Size: 2 << 20},
			{At: 0x103000, Size: 4096, Text: "text\n"},
			{At: 0x104000, Size: 8192},
			{At: 0x106000, Size: 4096},
		},
		Channels: []api.Link{
			{From: 1, To: 0, Effect: api.ByVector, Vector: 5},
			{From: 2, To: 1, Effect: api.ByStart},
			{From: 0, To: 3, Effect: api.ByStop},
			{From: 3, To: 2, Effect: api.ByReset},
		},
		Irqs: []api.Link{
			{From: 1, To: 1, Effect: api.ByVector, Vector: 9},
			{From: 0, To: 0, Effect: api.ByVector, Masked: true},
		},
		Plans: []api.Schedule{
			{Major: 12, Lanes: [][]api.Stint{
				{{Subject: 0, Ticks: 1}, {Subject: 2, Ticks: 2}, {Subject: 0, Ticks: 1}, {Subject: 2, Ticks: 2}, {Subject: 0, Ticks: 1}, {Subject: -1, Ticks: 1}, {Subject: 2, Ticks: 1}, {Subject: 0, Ticks: 1}, {Subject: 2, Ticks: 1}, {Subject: -1, Ticks: 1}},
				nobody(12),
				nobody(12),
				{{Subject: -1, Ticks: 2}, {Subject: 1, Ticks: 3}, {Subject: -1, Ticks: 7}},
			}},
			{Major: 65536, Lanes: [][]api.Stint{{{Subject: 0, Ticks: 3}, {Subject: 2, Ticks: 65533}}, nobody(65536), nobody(65536), nobody(65536)}},
			{Major: 1, Lanes: [][]api.Stint{nobody(1), nobody(1), nobody(1), nobody(1)}},
		},
		Master: 3,
		Start:  1,
	}
}

// TestImage: P14.5: each field of an image.
func TestImage(t *testing.T) {
	t.Parallel()
	p := flat(t, whole)
	l, _, _ := place.Lay(p)
	i, why := Image(p, l)
	if why != api.OK {
		t.Fatalf("P14.5: %v", why)
	}
	if len(i.Tables) != 5+3+3+1+4+3 {
		t.Errorf("P14.5: %d tables", len(i.Tables))
	}
	if !reflect.DeepEqual(i.Tables, image(p, l).Tables) {
		t.Error("P14.5: other tables than the model's")
	}
	i.Tables = nil
	if want := wholeImage(); told(i) != told(want) {
		t.Errorf("P14.5:\n%+v, want\n%+v", i, want)
	}
}

// TestTables: P14.5: what the entries of some tables are, where the image lies
// elsewhere.
func TestTables(t *testing.T) {
	t.Parallel()
	b := compiled(t, of(`ram 0x1000 size 64K; device d at 1M size 4K dma { map r at 2M write; }
		device e at 2M size 4K;
		region r size 4K;
		subject a cpu 0 { map e at 0x2000 write; map r at 0x1000 exec; }
		subject n cpu 0 { }`))
	// r lies at 0x1000, the image from 0x2000 on: a page ahead of 3 + 1 + 3
	// tables.
	if b.Layout.Image != 0x2000 || b.Layout.Pages != 8 {
		t.Fatalf("P14.4: %+v", b.Layout)
	}
	i, _, _ := bundle.Decode(b.Image)
	for n, want := range []map[int]uint64{
		{0: 0x4001}, {0: 0x5001}, {1: 0x1005, 2: 0x200003},
		{},
		{0: 0x8001}, {1: 0x9001}, {0: 0x1003},
	} {
		for entry, got := range i.Tables[n] {
			if got != want[entry] {
				t.Errorf("P14.5: entry %d of table %d is %#x, want %#x", entry, n, got, want[entry])
			}
		}
	}
	if i.Subjects[0].Root != 0 || i.Subjects[1].Root != 3 || i.Devices[0].Root != 4 || i.Devices[1].Root != -1 {
		t.Errorf("P14.5: roots: %+v, %+v", i.Subjects, i.Devices)
	}
}

// TestNoMaster: P14.5: a policy without a master, and without anything.
func TestNoMaster(t *testing.T) {
	t.Parallel()
	b := compiled(t, of("ram 0 size 64K;"))
	i, _, why := bundle.Decode(b.Image)
	want := api.Image{Master: -1, Bus: api.Bus{Rams: []api.Range{{Size: 65536}}}}
	row := []api.Stint{{Subject: -1, Ticks: 1}}
	want.Plans = []api.Schedule{{Major: 1, Lanes: [][]api.Stint{row, row, row, row}}}
	if why != api.OK || told(i) != told(want) || len(b.Image) != api.Page {
		t.Errorf("P14.5: %v\n%+v, want\n%+v", why, i, want)
	}
}

// TestImageRefuses: P14.5: ErrArg of a policy that is refused, and of another
// layout.
func TestImageRefuses(t *testing.T) {
	t.Parallel()
	p := flat(t, whole)
	right, _, _ := place.Lay(p)
	hold := func(what string, p api.Policy, l api.Layout, want api.Errno) {
		t.Helper()
		i, why := Image(p, l)
		if why != want {
			t.Errorf("P14.5: %s: %v, want %v", what, why, want)
		}
		if why != api.OK && told(i) != told(api.Image{}) {
			t.Errorf("R3: %s: an image beside %v", what, why)
		}
	}
	for what, change := range map[string]func(l *api.Layout){
		"nowhere":          func(l *api.Layout) { *l = api.Layout{} },
		"a page more":      func(l *api.Layout) { l.Pages++ },
		"a page less":      func(l *api.Layout) { l.Pages-- },
		"the image higher": func(l *api.Layout) { l.Image += 4096 },
		"the image wraps":  func(l *api.Layout) { l.Image = math.MaxUint64 },
		"a region higher":  func(l *api.Layout) { l.Regions[5] += 4096 },
		"a region less":    func(l *api.Layout) { l.Regions = l.Regions[:5] },
		"a region more":    func(l *api.Layout) { l.Regions = append(l.Regions, 0x110000) },
		"two exchanged":    func(l *api.Layout) { l.Regions[3], l.Regions[5] = l.Regions[5], l.Regions[3] },
	} {
		l := copyOf(right)
		change(&l)
		hold(what, p, l, api.ErrArg)
	}
	hold("as it is", p, right, api.OK)
	wrong := copyOf(p)
	wrong.Subjects[0].CPU = 4
	hold("refused by check", wrong, right, api.ErrArg)
	hold("the zero policy", api.Policy{}, api.Layout{}, api.ErrArg)
	full := flat(t, of("ram 0 size 8K; region r size 8K;"))
	hold("without room", full, api.Layout{}, api.ErrArg)
	hold("without room", full, api.Layout{Regions: []uint64{0}, Image: 8192, Pages: 1}, api.ErrArg)
	none := flat(t, of("ram 0 size 64K;"))
	hold("no regions", none, api.Layout{Regions: nil, Pages: 1}, api.OK)
	hold("no regions", none, api.Layout{Regions: []uint64{}, Pages: 1}, api.OK)
}

// TestBus: P14.6: the ranges of any policy.
func TestBus(t *testing.T) {
	t.Parallel()
	if b := Bus(api.Policy{}); len(b.Rams) != 0 || len(b.Devices) != 0 {
		t.Errorf("P14.6: of nothing: %+v", b)
	}
	p := api.Policy{
		Rams:    []api.Ram{{Pos: 1, At: 7, Size: math.MaxUint64}, {At: 7, Size: 0}, {At: 3}},
		Devices: []api.Device{{Name: "x", At: 1, Size: 2, Maps: []api.Map{{At: 9}}}, {Name: "x", At: math.MaxUint64, Size: 1}},
	}
	want := api.Bus{
		Rams:    []api.Range{{At: 7, Size: math.MaxUint64}, {At: 7}, {At: 3}},
		Devices: []api.Range{{At: 1, Size: 2}, {At: math.MaxUint64, Size: 1}},
	}
	if b := Bus(p); !reflect.DeepEqual(b, want) {
		t.Errorf("P14.6: %+v, want %+v", b, want)
	}
	p.Rams, p.Devices = slices.Repeat(p.Rams, 20), slices.Repeat(p.Devices, 20)
	if b := Bus(p); len(b.Rams) != len(p.Rams) || len(b.Devices) != len(p.Devices) {
		t.Error("P14.6: of more than a machine has")
	}
}

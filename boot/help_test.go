package boot

import (
	"errors"
	"fmt"
	"slices"
	"testing"

	"bulkhead/api"
	"bulkhead/bundle"
	"bulkhead/bus"
	"bulkhead/forge"
)

// whole has something of all that a policy may have.
const whole = `system whole {
	ram 0x200000 size 4M; ram 0x100000 size 1M; ram 0x8000000 size 64K;
	device d at 0xf0000000 size 8K dma { map q at 0x5000 write; map h at 0x40000000; map q at 0; }
	device e at 0xf0100000 size 1M;
	device f at 0xf0300000 size 4K dma { map t at (1 << 39) - 4K; }
	region q size 8K at 0x8001000;
	region r size 12K fill 0xfe;
	region h size 2M big wx;
	region t size 4K fill "text\n";
	region z size 8K fill "";
	region o size 4K;
	subject a cpu 0 {
		map r at 0x30000 write; map e at 0x40000000 write; map q at 0x1000;
		map h at 6M write exec; map q at 0x3000 exec;
		fault tell c[1] vector 63;
	}
	subject b cpu 3 stopped { fault reset; map o at 0x8000; map t at 0; }
	subject c[1] cpu 0 { map o at 0x7fff000 write; fault stop; }
	subject n cpu 1 { }
	channel v from b to a vector 5;
	channel w from c[1] to b over o start;
	channel x from a to n stop;
	channel y from n to c[1] reset;
	irq i from e to b vector 9;
	irq j from d to a vector 0 masked;
	plan p major 12 {
		cpu 3 { idle 2; run b 3; }
		cpu 0 needs { need a 1 every 3; need c[1] 2 every 4; }
		cpu 1 { }
	}
	plan z major 65536 { cpu 0 { run a 1; run a 2; run c[1] 65533; } }
	plan y major 1 { }
	master n; start z;
}`

// compiled is what comes of a text that is taken.
func compiled(t testing.TB, src string) forge.Built {
	t.Helper()
	b, err := forge.Compile([]byte(src))
	if err != nil {
		t.Fatalf("%.300q: %v", src, err)
	}
	return b
}

// of is a text with one plan, and these lines.
func of(lines string) string { return "system s { " + lines + " plan p major 1 { } start p; }" }

// read is what the bytes of an image say.
func read(t testing.TB, raw []byte) api.Image {
	t.Helper()
	i, _, why := bundle.Decode(raw)
	if why != api.OK {
		t.Fatal(why)
	}
	return i
}

// laid are the bytes of an image, their sums right.
func laid(t testing.TB, i api.Image) []byte {
	t.Helper()
	raw, why := bundle.Encode(i)
	if why != api.OK {
		t.Fatal(why)
	}
	return raw
}

// parts of the small image: its bus, where it lies, and how many pages it has.
const (
	smallBase  = 0x201000
	smallPages = 10
)

func smallBus() api.Bus {
	return api.Bus{
		Rams:    []api.Range{{At: 0x200000, Size: 4 << 20}, {At: 0x600000, Size: 2 << 20}},
		Devices: []api.Range{{At: 0x900000, Size: 1 << 20}, {At: 0x800000, Size: 1 << 20}, {At: 0xa00000, Size: 4096}},
	}
}

// frame is where a table of the small image lies.
func frame(table int) uint64 { return smallBase + 4096*uint64(smallPages-9+table) }

// small is an image with a table of each kind: 0 names 1 and 4; 1 names 2 and
// 3, between them a big page; 5 is empty; 6 names 7, that one 8.
func small() api.Image {
	i := api.Image{
		Base: smallBase, Bus: smallBus(),
		Subjects: []api.Tenant{{CPU: 2, Root: 0, Rule: api.ByVector, To: 1, Vector: 63}, {CPU: 1, Root: 5, Rule: api.ByStop, To: -1}},
		Devices:  []api.Port{{Root: -1}, {Root: 6}, {Root: -1}},
		Regions: []api.Ground{
			{At: 0x300000, Size: 8192, Text: "first"}, {At: 0x200000, Size: 4096, Fill: 7},
			{At: 0x5ff000, Size: 8192}, {At: 0x220000, Size: 4096, Text: "behind"},
		},
		Channels: []api.Link{{From: 0, To: 1, Effect: api.ByVector, Vector: 63}, {From: 1, To: 0, Effect: api.ByStart}},
		Irqs:     []api.Link{{From: 2, To: 1, Effect: api.ByVector, Vector: 63, Masked: true}, {From: 0, To: 0, Effect: api.ByVector}},
		Plans: []api.Schedule{
			{Major: 10, Lanes: [][]api.Stint{{{Subject: -1, Ticks: 10}}, {{Subject: 1, Ticks: 4}, {Subject: -1, Ticks: 6}}, {{Subject: 0, Ticks: 10}}, {{Subject: -1, Ticks: 10}}}},
			{Major: 1, Lanes: [][]api.Stint{{{Subject: -1, Ticks: 1}}, {{Subject: -1, Ticks: 1}}, {{Subject: -1, Ticks: 1}}, {{Subject: -1, Ticks: 1}}}},
		},
		Master: -1, Start: 1,
		Tables: make([]api.Table, 9),
	}
	i.Tables[0][0], i.Tables[0][511] = frame(1)|1, frame(4)|1
	i.Tables[1][0], i.Tables[1][1], i.Tables[1][511] = frame(2)|1, 0x400000|1|2|4|8, frame(3)|1
	i.Tables[2][0], i.Tables[2][1], i.Tables[2][511] = 0x300000|1|2, 0x800000|1|4, 0x300000|1
	i.Tables[6][3], i.Tables[7][7], i.Tables[8][9] = frame(7)|1, frame(8)|1, 0xa00000|1|2
	return i
}

// turn is the small image with something changed; if it has more pages then,
// its tables name each other where they lie now.
func turn(change func(i *api.Image)) api.Image {
	i := small()
	change(&i)
	if pages, why := bundle.Size(i); why == api.OK && len(i.Tables) == 9 && pages != smallPages {
		shift(&i, 4096*uint64(pages-smallPages))
	}
	return i
}

// shift has small's tables name each other so much further on.
func shift(i *api.Image, more uint64) {
	first, last := frame(0), frame(8)
	for k := range i.Tables {
		for n, e := range i.Tables[k] {
			if at := e &^ 0xfff; at >= first && at <= last {
				i.Tables[k][n] = e + more
			}
		}
	}
}

// moved is a changed small image that lies elsewhere.
func moved(base uint64, change func(i *api.Image)) api.Image {
	return turn(func(i *api.Image) {
		change(i)
		shift(i, base-i.Base)
		i.Base = base
	})
}

// told tells all of a thing; nil and empty lists alike.
func told(x any) string { return fmt.Sprintf("%+v", x) }

func sameImage(a, b api.Image) bool {
	if !slices.Equal(a.Tables, b.Tables) {
		return false
	}
	a.Tables, b.Tables = nil, nil
	return told(a) == told(b)
}

// holdError holds an error against the refusal that it must be; of OK none.
func holdError(t *testing.T, where string, err error, want Refusal) {
	t.Helper()
	if want.Why == api.OK {
		if err != nil {
			t.Errorf("%s: %+v", where, err)
		}
		return
	}
	var r *Refusal
	if !errors.As(err, &r) || *r != want {
		t.Errorf("%s: %v, want %+v", where, err, want)
		return
	}
	if !errors.Is(err, want.Why) || r.Unwrap() != want.Why || errors.Is(err, api.OK) {
		t.Errorf("P15.3: %s: the number is not found in %v", where, err)
	}
	if err.Error() == "" {
		t.Errorf("R8: %s: no text", where)
	}
}

// holdCheck holds Check of bytes against what it must answer.
func holdCheck(t *testing.T, where string, b api.Bus, raw []byte, want Refusal) {
	t.Helper()
	i, err := Check(b, raw)
	holdError(t, where, err, want)
	right := api.Image{}
	if want.Why == api.OK {
		right = read(t, raw)
	}
	if !sameImage(i, right) {
		t.Errorf("P15.3: %s: another image", where)
	}
}

// machine is a new machine.
func machine(t testing.TB, b api.Bus) *bus.Machine {
	t.Helper()
	m, why := bus.New(b)
	if why != api.OK {
		t.Fatal(why)
	}
	return m
}

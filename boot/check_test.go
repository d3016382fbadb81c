package boot

import (
	"slices"
	"strings"
	"testing"

	"bulkhead/api"
	"bulkhead/forge"
)

// fault is a change of the small image, and what Check must answer of it.
type fault struct {
	what        string
	section, at int
	why         api.Errno
	change      func(i *api.Image)
}

func (f fault) refusal() Refusal { return Refusal{f.section, f.at, f.why} }

// well is a change after which the image is still taken.
func well(what string, change func(i *api.Image)) fault { return fault{what, 0, 0, api.OK, change} }

// holdFaults holds Check of each changed image, against the chapter's words,
// too.
func holdFaults(t *testing.T, list []fault) {
	t.Helper()
	for _, f := range list {
		i := turn(f.change)
		raw := laid(t, i)
		where := "P15.1: " + f.what
		holdCheck(t, where, smallBus(), raw, f.refusal())
		if v := verdict(smallBus(), raw); v != f.refusal() {
			t.Errorf("%s: the model says %+v", where, v)
		}
	}
}

// TestSmall: the small image as it stands is taken.
func TestSmall(t *testing.T) {
	t.Parallel()
	raw := laid(t, small())
	if len(raw) != smallPages*4096 {
		t.Fatalf("the small image has %d bytes", len(raw))
	}
	holdCheck(t, "P15.1: the small image", smallBus(), raw, Refusal{})
}

// TestForm: P15.1: what bundle.Decode refuses, with its section and byte, ahead
// of all else, the bus too.
func TestForm(t *testing.T) {
	t.Parallel()
	raw := laid(t, small())
	spoilt := func(at int) []byte {
		b := slices.Clone(raw)
		b[at] ^= 1
		return b
	}
	for _, b := range []api.Bus{smallBus(), {}, {Rams: []api.Range{{At: 1, Size: 2}}}} {
		holdCheck(t, "P15.1: nil", b, nil, Refusal{0, 0, api.ErrShort})
		holdCheck(t, "P15.1: no bytes", b, []byte{}, Refusal{0, 0, api.ErrShort})
		holdCheck(t, "P15.1: 159 bytes", b, raw[:159], Refusal{0, 159, api.ErrShort})
		holdCheck(t, "P15.1: a page less", b, raw[:len(raw)-4096], Refusal{0, len(raw) - 4096, api.ErrShort})
		holdCheck(t, "P15.1: a byte more", b, append(slices.Clone(raw), 0), Refusal{0, len(raw), api.ErrTail})
		holdCheck(t, "P15.1: the magic", b, spoilt(3), Refusal{0, 0, api.ErrMagic})
		holdCheck(t, "P15.1: the version", b, spoilt(9), Refusal{0, 8, api.ErrVersion})
		holdCheck(t, "P15.1: the first section", b, spoilt(161), Refusal{1, 160, api.ErrSum})
		holdCheck(t, "P15.1: the zeros ahead of the tables", b, spoilt(4095), Refusal{8, 4095, api.ErrForm})
		holdCheck(t, "P15.1: the tables", b, spoilt(len(raw)-1), Refusal{8, 4096, api.ErrSum})
	}
}

// TestBus: P15.1: the image's bus is the machine's, range by range.
func TestBus(t *testing.T) {
	t.Parallel()
	raw := laid(t, small())
	r := func(at, size uint64) api.Range { return api.Range{At: at, Size: size} }
	none := func(b *api.Bus) { *b = api.Bus{} }
	for what, change := range map[string]func(b *api.Bus){
		"nothing":            none,
		"a device more":      func(b *api.Bus) { b.Devices = append(b.Devices, r(0xe0000000, 4096)) },
		"a device less":      func(b *api.Bus) { b.Devices = b.Devices[:2] },
		"a ram more":         func(b *api.Bus) { b.Rams = append(b.Rams, r(0xe0000000, 4096)) },
		"a ram less":         func(b *api.Bus) { b.Rams = b.Rams[:1] },
		"rams turned":        func(b *api.Bus) { slices.Reverse(b.Rams) },
		"devices turned":     func(b *api.Bus) { slices.Reverse(b.Devices) },
		"one ram of the two": func(b *api.Bus) { b.Rams = []api.Range{r(0x200000, 6<<20)} },
		"a ram cut":          func(b *api.Bus) { b.Rams[1].Size -= 4096 },
		"a window cut":       func(b *api.Bus) { b.Devices[0].Size -= 4096 },
		"a ram moved":        func(b *api.Bus) { b.Rams[0].At -= 4096; b.Rams[0].Size += 4096 },
		"a window moved":     func(b *api.Bus) { b.Devices[2].At += 4096 },
		"a ram as a window":  func(b *api.Bus) { b.Devices = append(b.Devices, b.Rams[1]); b.Rams = b.Rams[:1] },
	} {
		b := smallBus()
		change(&b)
		holdCheck(t, "P15.1: the machine has "+what, b, raw, Refusal{1, 0, api.ErrBus})
	}
	for what, change := range map[string]func(b *api.Bus){
		"nine rams":        func(b *api.Bus) { b.Rams = rowOf(9) },
		"a ram of nothing": func(b *api.Bus) { b.Rams[1].Size = 0 },
		"an odd window":    func(b *api.Bus) { b.Devices[2].At++ },
		"too large a ram":  func(b *api.Bus) { b.Rams[0] = r(0x1000000, 1<<26) },
		"an overlap":       func(b *api.Bus) { b.Rams[1].At -= 4096 },
		"beyond 32 bits":   func(b *api.Bus) { b.Devices[2].At = 1 << 32 },
	} {
		b := smallBus()
		change(&b)
		i := turn(func(i *api.Image) { i.Bus = b })
		holdCheck(t, "P15.1: both have "+what, b, laid(t, i), Refusal{1, 0, api.ErrBus})
	}
}

// rowOf are so many spans of a page each.
func rowOf(n int) []api.Range {
	var out []api.Range
	for k := range n {
		out = append(out, api.Range{At: 0x200000 + 8192*uint64(k), Size: 4096})
	}
	return out
}

// bare is an image of one page, and of a plan alone.
func bare(base uint64, b api.Bus) api.Image {
	lanes := make([][]api.Stint, 4)
	for n := range lanes {
		lanes[n] = []api.Stint{{Subject: -1, Ticks: 1}}
	}
	return api.Image{Base: base, Bus: b, Devices: slices.Repeat([]api.Port{{Root: -1}}, len(b.Devices)), Plans: []api.Schedule{{Major: 1, Lanes: lanes}}, Master: -1}
}

// TestBase: P15.1: the image lies whole in RAM, which spans that touch make one
// ground, and windows don't.
func TestBase(t *testing.T) {
	t.Parallel()
	page := func(at uint64) api.Bus { return api.Bus{Rams: []api.Range{{At: at, Size: 4096}}} }
	taken, base := Refusal{}, Refusal{0, 0, api.ErrBase}
	for _, c := range []struct {
		what string
		b    api.Bus
		base uint64
		want Refusal
	}{
		{"one page for one page", page(0), 0, taken},
		{"the last page", page(1<<32 - 4096), 1<<32 - 4096, taken},
		{"behind it", page(0), 4096, base},
		{"ahead of it", page(8192), 4096, base},
		{"no RAM", api.Bus{}, 0, base},
		{"a window", api.Bus{Devices: page(0).Rams}, 0, base},
		{"32 bits too far", page(0), 1 << 32, base},
		{"the last page of 64 bits", page(0), 1<<64 - 4096, base},
	} {
		holdCheck(t, "P15.1: "+c.what, c.b, laid(t, bare(c.base, c.b)), c.want)
	}
	for _, at := range []uint64{0x1ff000, 0x7f7000, 0x800000, 0x900000, 1 << 40, 1<<64 - 4096, 1<<64 - 4096*smallPages, 1<<64 - 4096*(smallPages-1)} {
		holdCheck(t, "P15.1: the image outside", smallBus(), laid(t, turn(func(i *api.Image) { i.Base = at })), base)
	}
	bare := func(i *api.Image) { i.Regions, i.Tables[1][1], i.Tables[2] = nil, 0, api.Table{} }
	for _, at := range []uint64{0x200000, 0x400000, 0x5fb000, 0x600000, 0x7f6000} {
		holdCheck(t, "P15.1: the image elsewhere in RAM", smallBus(), laid(t, moved(at, bare)), taken)
	}
}

// TestSubjects: P15.1: section 2.
func TestSubjects(t *testing.T) {
	t.Parallel()
	one := func(change func(s *api.Tenant)) func(i *api.Image) {
		return func(i *api.Image) { change(&i.Subjects[1]) }
	}
	list := []fault{
		{"65 subjects", 2, 0, api.ErrMany, func(i *api.Image) { i.Subjects = slices.Repeat(i.Subjects, 33)[:65] }},
		{"CPU 4", 2, 1, api.ErrCPU, one(func(s *api.Tenant) { s.CPU = 4 })},
		{"CPU 255", 2, 1, api.ErrCPU, one(func(s *api.Tenant) { s.CPU = 255 })},
		{"CPU 3, another than its lane", 7, 0, api.ErrTurn, one(func(s *api.Tenant) { s.CPU = 3 })},
		{"a rule that starts", 2, 1, api.ErrField, one(func(s *api.Tenant) { s.Rule = api.ByStart })},
		{"rule 255", 2, 1, api.ErrField, one(func(s *api.Tenant) { s.Rule = 255 })},
		{"none with a To", 2, 1, api.ErrField, one(func(s *api.Tenant) { s.Rule, s.To = 0, 0 })},
		{"none with a Vector", 2, 1, api.ErrField, one(func(s *api.Tenant) { s.Rule, s.Vector = 0, 1 })},
		{"reset with a To", 2, 1, api.ErrField, one(func(s *api.Tenant) { s.Rule, s.To = api.ByReset, 0 })},
		{"stop with a Vector", 2, 1, api.ErrField, one(func(s *api.Tenant) { s.Vector = 64 })},
		{"tells none", 2, 1, api.ErrSubject, one(func(s *api.Tenant) { s.Rule = api.ByVector })},
		{"tells itself", 2, 1, api.ErrSubject, one(func(s *api.Tenant) { s.Rule, s.To = api.ByVector, 1 })},
		{"tells one too far", 2, 1, api.ErrSubject, one(func(s *api.Tenant) { s.Rule, s.To = api.ByVector, 2 })},
		{"tells 64", 2, 1, api.ErrVector, one(func(s *api.Tenant) { s.Rule, s.To, s.Vector = api.ByVector, 0, 64 })},
		{"no root", 2, 1, api.ErrRoot, one(func(s *api.Tenant) { s.Root = -1 })},
		{"a root that is no table", 2, 1, api.ErrRoot, one(func(s *api.Tenant) { s.Root = 9 })},
		{"the last table as root", 8, 8, api.ErrRoot, one(func(s *api.Tenant) { s.Root = 8 })},
		well("tells 0", one(func(s *api.Tenant) { s.Rule, s.To = api.ByVector, 0 })),
		well("tells 63", one(func(s *api.Tenant) { s.Rule, s.To, s.Vector = api.ByVector, 0, 63 })),
		well("no rule", one(func(s *api.Tenant) { s.Rule = 0 })),
		well("reset", one(func(s *api.Tenant) { s.Rule = api.ByReset })),
		well("stopped", one(func(s *api.Tenant) { s.Stopped = true })),
		well("CPU 0, which never has its turn", func(i *api.Image) { i.Subjects[1].CPU = 0; i.Plans[0] = i.Plans[1] }),
		well("64 subjects", func(i *api.Image) {
			i.Regions, i.Devices[1].Root, i.Tables = nil, -1, make([]api.Table, 64)
			for range 62 {
				i.Subjects = append(i.Subjects, api.Tenant{CPU: 3, To: -1})
			}
			for k := range i.Subjects {
				i.Subjects[k].Root = k
			}
		}),
	}
	holdFaults(t, list)
}

// TestPorts: P15.1: section 3.
func TestPorts(t *testing.T) {
	t.Parallel()
	holdFaults(t, []fault{
		{"a root that is no table", 3, 0, api.ErrRoot, func(i *api.Image) { i.Devices[0].Root = 9 }},
		{"a root far off", 3, 2, api.ErrRoot, func(i *api.Image) { i.Devices[2].Root = 65534 }},
		{"another one's root", 8, 6, api.ErrRoot, func(i *api.Image) { i.Devices[2].Root = 6 }},
		well("another device has the root", func(i *api.Image) { i.Devices[0].Root, i.Devices[1].Root = 6, -1 }),
	})
}

// TestRegions: P15.1: section 4.
func TestRegions(t *testing.T) {
	t.Parallel()
	at := func(at, size uint64) func(i *api.Image) {
		return func(i *api.Image) { i.Regions[0] = api.Ground{At: at, Size: size} }
	}
	last := func(g api.Ground) func(i *api.Image) { return func(i *api.Image) { i.Regions[3] = g } }
	holdFaults(t, []fault{
		{"257 regions", 4, 0, api.ErrMany, func(i *api.Image) { i.Regions = slices.Repeat(i.Regions, 65)[:257] }},
		well("256 regions", func(i *api.Image) {
			for k := range 252 {
				i.Regions = append(i.Regions, api.Ground{At: 0x400000 + 4096*uint64(k), Size: 4096})
			}
		}),
		well("none", func(i *api.Image) { i.Regions = nil }),
		{"an odd At", 4, 0, api.ErrAlign, at(0x300001, 4096)},
		{"half a page further", 4, 0, api.ErrAlign, at(0x300800, 4096)},
		{"an odd Size", 4, 0, api.ErrAlign, at(0x300000, 4097)},
		{"less than a page", 4, 0, api.ErrAlign, at(0x300000, 1)},
		{"an odd At of no size", 4, 0, api.ErrAlign, at(0x300001, 0)},
		{"no size", 4, 0, api.ErrSize, at(0x300000, 0)},
		{"no size off the bus", 4, 0, api.ErrSize, at(0, 0)},
		{"ahead of RAM", 4, 0, api.ErrOutside, at(0x1ff000, 4096)},
		{"begins ahead of RAM", 4, 0, api.ErrOutside, at(0x1ff000, 8192)},
		{"behind RAM", 4, 0, api.ErrOutside, at(0x800000, 4096)},
		{"ends behind RAM", 4, 0, api.ErrOutside, at(0x7ff000, 8192)},
		{"a window", 4, 0, api.ErrOutside, at(0xa00000, 4096)},
		{"the image's first page", 4, 0, api.ErrOutside, at(smallBase, 4096)},
		{"the image's last page", 4, 0, api.ErrOutside, at(smallBase+9*4096, 4096)},
		{"over the image's first page", 4, 0, api.ErrOutside, at(0x200000, 8192)},
		{"over the image's last page", 4, 0, api.ErrOutside, at(smallBase+9*4096, 8192)},
		{"around the image", 4, 0, api.ErrOutside, at(0x200000, 1<<20)},
		{"all of 64 bits but a page", 4, 0, api.ErrOutside, at(0x300000, 1<<64-4096)},
		{"up to the end of 64 bits", 4, 0, api.ErrOutside, at(1<<64-8192, 8192)},
		{"over the end of 64 bits", 4, 0, api.ErrOutside, at(1<<64-4096, 1<<23)},
		{"around, to where it began", 4, 0, api.ErrOutside, at(0x301000, 1<<64-4096)},
		{"beyond 32 bits", 4, 0, api.ErrOutside, at(1<<32+0x300000, 4096)},
		well("from the image on", func(i *api.Image) { i.Regions[3] = api.Ground{At: smallBase + 10*4096, Size: 4096} }),
		well("up to RAM's end", at(0x601000, 0x1ff000)),
		well("over two spans", func(i *api.Image) { i.Regions = []api.Ground{{At: 0x400000, Size: 4 << 20}} }),
		{"one ahead, again", 4, 3, api.ErrOverlap, last(api.Ground{At: 0x300000, Size: 8192})},
		{"its second page", 4, 3, api.ErrOverlap, last(api.Ground{At: 0x301000, Size: 8192})},
		{"ends in its first page", 4, 3, api.ErrOverlap, last(api.Ground{At: 0x2ff000, Size: 8192})},
		{"around it", 4, 3, api.ErrOverlap, last(api.Ground{At: 0x2ff000, Size: 1 << 20})},
		{"within it", 4, 3, api.ErrOverlap, func(i *api.Image) {
			i.Regions[0].Size = 1 << 20
			i.Regions[3] = api.Ground{At: 0x380000, Size: 4096}
		}},
		well("beside it", last(api.Ground{At: 0x302000, Size: 4096})),
		well("ahead of it", last(api.Ground{At: 0x2ff000, Size: 4096})),
		{"a text too long", 4, 3, api.ErrFill, last(api.Ground{At: 0x220000, Size: 4096, Text: strings.Repeat("x", 4097)})},
		{"a fill and a text", 4, 3, api.ErrFill, last(api.Ground{At: 0x220000, Size: 4096, Text: "x", Fill: 1})},
		{"a large fill", 4, 3, api.ErrFill, last(api.Ground{At: 0x400000, Size: 1<<20 + 4096, Fill: 1})},
		well("a text just as long", last(api.Ground{At: 0x220000, Size: 4096, Text: strings.Repeat("x", 4096)})),
		well("the largest fill", last(api.Ground{At: 0x400000, Size: 1 << 20, Fill: 255})),
		well("a large one of zeros", last(api.Ground{At: 0x400000, Size: 1<<20 + 4096})),
		well("a large one with a text", last(api.Ground{At: 0x400000, Size: 1<<20 + 4096, Text: "x"})),
	})
}

// TestLinks: P15.1: sections 5 and 6.
func TestLinks(t *testing.T) {
	t.Parallel()
	link := func(from, to, effect, vector int) func(i *api.Image) {
		return func(i *api.Image) {
			i.Channels[1] = api.Link{From: from, To: to, Effect: effect, Vector: vector}
		}
	}
	irq := func(from, to, vector int) func(i *api.Image) {
		return func(i *api.Image) {
			i.Irqs[1] = api.Link{From: from, To: to, Effect: api.ByVector, Vector: vector}
		}
	}
	holdFaults(t, []fault{
		{"257 channels", 5, 0, api.ErrMany, func(i *api.Image) { i.Channels = slices.Repeat(i.Channels, 129)[:257] }},
		well("256 channels", func(i *api.Image) { i.Channels = slices.Repeat(i.Channels, 128) }),
		well("none", func(i *api.Image) { i.Channels, i.Irqs = nil, nil }),
		{"from nobody", 5, 1, api.ErrSubject, link(-1, 0, 1, 0)},
		{"to nobody", 5, 1, api.ErrSubject, link(0, -1, 1, 0)},
		{"nobody to nobody", 5, 1, api.ErrSubject, link(-1, -1, 1, 0)},
		{"from one too far", 5, 1, api.ErrSubject, link(2, 0, 1, 0)},
		{"to one too far", 5, 1, api.ErrSubject, link(0, 2, 1, 0)},
		{"to itself", 5, 1, api.ErrEnds, link(1, 1, 1, 0)},
		{"effect 0", 5, 1, api.ErrField, link(1, 0, 0, 0)},
		{"effect 5", 5, 1, api.ErrField, link(1, 0, 5, 0)},
		{"start with a vector", 5, 1, api.ErrField, link(1, 0, api.ByStart, 1)},
		{"reset with a vector", 5, 1, api.ErrField, link(1, 0, api.ByReset, 64)},
		{"vector 64", 5, 1, api.ErrVector, link(1, 0, api.ByVector, 64)},
		{"vector 255", 5, 1, api.ErrVector, link(1, 0, api.ByVector, 255)},
		well("vector 0", link(1, 0, api.ByVector, 0)),
		well("reset", link(1, 0, api.ByReset, 0)),
		well("stop", link(0, 1, api.ByStop, 0)),
		{"65 irqs", 6, 0, api.ErrMany, func(i *api.Image) { i.Irqs = slices.Repeat(i.Irqs, 33)[:65] }},
		well("64 irqs", func(i *api.Image) { i.Irqs = slices.Repeat(i.Irqs, 32) }),
		{"from no device", 6, 1, api.ErrDevice, irq(-1, 0, 0)},
		{"from one too far", 6, 1, api.ErrDevice, irq(3, 0, 0)},
		{"to nobody", 6, 1, api.ErrSubject, irq(2, -1, 0)},
		{"to one too far", 6, 1, api.ErrSubject, irq(2, 2, 0)},
		{"an irq's vector 64", 6, 1, api.ErrVector, irq(2, 1, 64)},
		well("an irq's vector 63", irq(2, 1, 63)),
	})
}

// plan gives plan 1 another major, and another lane 2.
func plan(major int, lane ...api.Stint) func(i *api.Image) {
	return func(i *api.Image) {
		i.Plans[1].Major = major
		for n := range i.Plans[1].Lanes {
			i.Plans[1].Lanes[n] = []api.Stint{{Subject: -1, Ticks: major}}
		}
		i.Plans[1].Lanes[2] = lane
	}
}

// TestPlans: P15.1: section 7.
func TestPlans(t *testing.T) {
	t.Parallel()
	s := func(subject, ticks int) api.Stint { return api.Stint{Subject: subject, Ticks: ticks} }
	turns := func(n int) []api.Stint { return slices.Repeat([]api.Stint{s(0, 1), s(-1, 1)}, n)[:n] }
	lanes := func(n int) func(i *api.Image) {
		return func(i *api.Image) {
			for k := range i.Plans {
				i.Plans[k].Lanes = slices.Repeat(i.Plans[k].Lanes, 2)[:n]
			}
		}
	}
	holdFaults(t, []fault{
		{"no plan", 7, 0, api.ErrPlan, func(i *api.Image) { i.Plans = nil }},
		{"17 plans", 7, 0, api.ErrMany, func(i *api.Image) { i.Plans = slices.Repeat(i.Plans, 9)[:17] }},
		well("16 plans", func(i *api.Image) { i.Plans = slices.Repeat(i.Plans, 8); i.Start = 15 }),
		{"major 0", 7, 1, api.ErrMajor, plan(0, s(0, 1))},
		{"major 65537", 7, 1, api.ErrMajor, plan(65537, s(0, 65537))},
		{"the longest Word", 7, 1, api.ErrMajor, plan(1<<32-1, s(0, 1<<32-1))},
		well("major 65536", plan(65536, s(0, 65536))),
		well("major 1", plan(1, s(0, 1))),
		{"no lanes", 7, 0, api.ErrCPU, lanes(0)},
		{"three lanes", 7, 0, api.ErrCPU, lanes(3)},
		{"five lanes", 7, 0, api.ErrCPU, lanes(5)},
		{"4097 stints", 7, 1, api.ErrMany, plan(4097, turns(4097)...)},
		well("4096 stints", plan(4096, turns(4096)...)),
		{"a lane without stints", 7, 1, api.ErrBudget, plan(1)},
		{"no ticks", 7, 1, api.ErrBudget, plan(2, s(0, 2), s(-1, 0))},
		{"no ticks first", 7, 1, api.ErrBudget, plan(2, s(0, 0), s(-1, 2))},
		{"one behind the other", 7, 1, api.ErrBudget, plan(3, s(0, 1), s(0, 2))},
		{"idle behind idle", 7, 1, api.ErrBudget, plan(4, s(0, 1), s(-1, 1), s(-1, 2))},
		{"strangers that are one", 7, 1, api.ErrBudget, plan(4, s(9, 1), s(9, 3))},
		{"a tick less", 7, 1, api.ErrBudget, plan(4, s(0, 1), s(-1, 2))},
		{"a tick more", 7, 1, api.ErrBudget, plan(4, s(0, 1), s(-1, 4))},
		{"32 bits more", 7, 1, api.ErrBudget, plan(4, s(0, 1<<32-1), s(-1, 5))},
		{"a stranger", 7, 1, api.ErrSubject, plan(4, s(2, 1), s(-1, 3))},
		{"a stranger behind", 7, 1, api.ErrSubject, plan(4, s(1, 1), s(65534, 3))},
		{"another CPU's", 7, 1, api.ErrTurn, plan(4, s(1, 4))},
		well("round and round", plan(4, s(0, 1), s(-1, 1), s(0, 1), s(-1, 1))),
		{"no such master", 7, 0, api.ErrMaster, func(i *api.Image) { i.Master = 2 }},
		{"a master far off", 7, 0, api.ErrMaster, func(i *api.Image) { i.Master = 65534 }},
		well("a master", func(i *api.Image) { i.Master = 1 }),
		well("the first one", func(i *api.Image) { i.Master = 0 }),
		{"no such start", 7, 0, api.ErrStart, func(i *api.Image) { i.Start = 2 }},
		{"a start far off", 7, 0, api.ErrStart, func(i *api.Image) { i.Start = 65535 }},
		well("the first plan", func(i *api.Image) { i.Start = 0 }),
	})
}

// TestOrder: P15.1: of two things that are wrong the one that the order names
// first is told.
func TestOrder(t *testing.T) {
	t.Parallel()
	s := func(n, k int, change func(s *api.Stint)) func(i *api.Image) {
		return func(i *api.Image) { change(&i.Plans[0].Lanes[n][k]) }
	}
	list := []fault{
		{"bus", 1, 0, api.ErrBus, func(i *api.Image) { i.Bus.Rams[1].Size -= 4096 }},
		{"base", 0, 0, api.ErrBase, func(i *api.Image) { i.Base = 0 }},
		{"s0 cpu", 2, 0, api.ErrCPU, func(i *api.Image) { i.Subjects[0].CPU = 4 }},
		{"s0 rule", 2, 0, api.ErrField, func(i *api.Image) { i.Subjects[0].Rule = 4 }},
		{"s0 to", 2, 0, api.ErrSubject, func(i *api.Image) { i.Subjects[0].To = 0 }},
		{"s0 vector", 2, 0, api.ErrVector, func(i *api.Image) { i.Subjects[0].Vector = 64 }},
		{"s0 root", 2, 0, api.ErrRoot, func(i *api.Image) { i.Subjects[0].Root = -1 }},
		{"s1 cpu", 2, 1, api.ErrCPU, func(i *api.Image) { i.Subjects[1].CPU = 4 }},
		{"s1 rule", 2, 1, api.ErrField, func(i *api.Image) { i.Subjects[1].To = 0 }},
		{"s1 root", 2, 1, api.ErrRoot, func(i *api.Image) { i.Subjects[1].Root = 9 }},
		{"d1 root", 3, 1, api.ErrRoot, func(i *api.Image) { i.Devices[1].Root = 9 }},
		{"d2 root", 3, 2, api.ErrRoot, func(i *api.Image) { i.Devices[2].Root = 9 }},
		{"g0 align", 4, 0, api.ErrAlign, func(i *api.Image) { i.Regions[0].At |= 1 }},
		{"g0 size", 4, 0, api.ErrSize, func(i *api.Image) { i.Regions[0].Size = 0 }},
		{"g0 outside", 4, 0, api.ErrOutside, func(i *api.Image) { i.Regions[0].At = 0 }},
		{"g0 fill", 4, 0, api.ErrFill, func(i *api.Image) { i.Regions[0].Fill = 1 }},
		{"g2 align", 4, 2, api.ErrAlign, func(i *api.Image) { i.Regions[2].Size |= 1 }},
		{"g2 size", 4, 2, api.ErrSize, func(i *api.Image) { i.Regions[2].Size = 0 }},
		{"g2 outside", 4, 2, api.ErrOutside, func(i *api.Image) { i.Regions[2].At = smallBase }},
		{"g2 overlap", 4, 2, api.ErrOverlap, func(i *api.Image) { i.Regions[2].At = 0x200000; i.Regions[2].Size = 4096 }},
		{"g2 fill", 4, 2, api.ErrFill, func(i *api.Image) { i.Regions[2].Fill, i.Regions[2].Text = 1, "x" }},
		{"g3 fill", 4, 3, api.ErrFill, func(i *api.Image) { i.Regions[3].Fill = 1 }},
		{"c0 subject", 5, 0, api.ErrSubject, func(i *api.Image) { i.Channels[0].From = 9 }},
		{"c0 ends", 5, 0, api.ErrEnds, func(i *api.Image) { i.Channels[0].To = 0 }},
		{"c0 effect", 5, 0, api.ErrField, func(i *api.Image) { i.Channels[0].Effect = 9 }},
		{"c0 vector", 5, 0, api.ErrVector, func(i *api.Image) { i.Channels[0].Vector = 64 }},
		{"c1 subject", 5, 1, api.ErrSubject, func(i *api.Image) { i.Channels[1].To = 9 }},
		{"q0 device", 6, 0, api.ErrDevice, func(i *api.Image) { i.Irqs[0].From = 9 }},
		{"q0 subject", 6, 0, api.ErrSubject, func(i *api.Image) { i.Irqs[0].To = 9 }},
		{"q0 vector", 6, 0, api.ErrVector, func(i *api.Image) { i.Irqs[0].Vector = 64 }},
		{"q1 device", 6, 1, api.ErrDevice, func(i *api.Image) { i.Irqs[1].From = 9 }},
		{"p0 major", 7, 0, api.ErrMajor, func(i *api.Image) { i.Plans[0].Major = 0 }},
		{"p0 lanes", 7, 0, api.ErrCPU, func(i *api.Image) {
			i.Plans[0].Lanes = append(i.Plans[0].Lanes, nil)
			i.Plans[1].Lanes = append(i.Plans[1].Lanes, nil)
		}},
		{"p0 lane 0 subject", 7, 0, api.ErrSubject, s(0, 0, func(s *api.Stint) { s.Subject = 2 })},
		{"p0 lane 1 budget", 7, 0, api.ErrBudget, s(1, 1, func(s *api.Stint) { s.Ticks = 7 })},
		{"p0 lane 1 subject", 7, 0, api.ErrSubject, s(1, 1, func(s *api.Stint) { s.Subject = 2 })},
		{"p0 lane 1 turn", 7, 0, api.ErrTurn, s(1, 0, func(s *api.Stint) { s.Subject = 0 })},
		{"p0 lane 2 subject", 7, 0, api.ErrSubject, s(2, 0, func(s *api.Stint) { s.Subject = 2 })},
		{"p0 lane 3 budget", 7, 0, api.ErrBudget, s(3, 0, func(s *api.Stint) { s.Ticks = 9 })},
		{"p1 major", 7, 1, api.ErrMajor, func(i *api.Image) { i.Plans[1].Major = 65537 }},
		{"p1 lane 0 turn", 7, 1, api.ErrTurn, func(i *api.Image) { i.Plans[1].Lanes[0][0].Subject = 1 }},
		{"master", 7, 0, api.ErrMaster, func(i *api.Image) { i.Master = 2 }},
		{"start", 7, 0, api.ErrStart, func(i *api.Image) { i.Start = 2 }},
		{"t2 leaf", 8, 2, api.ErrLeaf, func(i *api.Image) { i.Tables[2][3] = 1 }},
		{"t2 entry", 8, 2, api.ErrEntry, func(i *api.Image) { i.Tables[2][4] = 1 << 63 }},
		{"t1 leaf behind t2", 8, 1, api.ErrLeaf, func(i *api.Image) { i.Tables[1][1] = 1 | 8 }},
		{"t1 entry behind it", 8, 1, api.ErrEntry, func(i *api.Image) { i.Tables[1][3] = 2 }},
		{"t4 entry", 8, 4, api.ErrEntry, func(i *api.Image) { i.Tables[4][0] = 4 }},
		{"s1 root of another", 8, 8, api.ErrRoot, func(i *api.Image) { i.Subjects[1].Root = 8 }},
		{"t6 entry", 8, 6, api.ErrEntry, func(i *api.Image) { i.Tables[6][0] = 4 }},
		{"d2 root of another", 8, 6, api.ErrRoot, func(i *api.Image) { i.Devices[2].Root = 6 }},
	}
	holdFaults(t, list)
	for k, early := range list {
		for _, late := range list[k+1:] {
			i := turn(func(i *api.Image) { late.change(i); early.change(i) })
			holdCheck(t, "P15.1: "+early.what+", "+late.what, smallBus(), laid(t, i), early.refusal())
		}
	}
}

// TestForged: P15.6: every image that forge emits is taken.
func TestForged(t *testing.T) {
	t.Parallel()
	texts := []string{
		whole, of("ram 0 size 64K;"), of("ram 0xfffff000 size 4K;"), of("ram 0 size 4K; ram 4K size 4K; subject a cpu 3 { }"),
		of("ram 0 size 64M; region a size 32M; region b size 2M big; subject s cpu 0 { map a at 0 write; map b at 4M * 64 exec; }"),
	}
	for n := 1; n <= 64; n++ {
		texts = append(texts, string(forge.Family(n)))
	}
	for _, src := range texts {
		b := compiled(t, src)
		holdCheck(t, "P15.6: "+src[:min(40, len(src))], forge.Bus(b.Policy), b.Image, Refusal{})
	}
}

// TestNewRefusals: P15.3: each refusal is a new one.
func TestNewRefusals(t *testing.T) {
	t.Parallel()
	for _, raw := range [][]byte{nil, laid(t, turn(func(i *api.Image) { i.Base = 0 })), laid(t, turn(func(i *api.Image) { i.Tables[2][3] = 2 }))} {
		_, a := Check(smallBus(), raw)
		_, b := Check(smallBus(), raw)
		if a == b || *a.(*Refusal) != *b.(*Refusal) {
			t.Errorf("P15.3: %v and %v are one", a, b)
		}
	}
}

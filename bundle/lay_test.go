package bundle

import (
	"bytes"
	"fmt"
	"math"
	"strings"
	"testing"

	"bulkhead/api"
)

// TestZero: P13.1: the zero image, byte by byte, and the chapter's words of it.
func TestZero(t *testing.T) {
	t.Parallel()
	b := encoded(t, api.Image{})
	if n, why := Size(api.Image{}); n != 1 || why != api.OK || len(b) != 4096 {
		t.Fatalf("P13.1: %d pages, %v, %d bytes", n, why, len(b))
	}
	want := make([]byte, 4096)
	copy(want, "BULKHEAD\x01\x00\x08\x00\x01")
	for k := range 8 {
		e := row{}.put(2, k+1, 0).put(4, 160+8*k, 8, int(sum(make([]byte, 8))))
		if k == 7 {
			e = row{}.put(2, 8, 0).put(4, 4096, 0, 0)
		}
		copy(want[24+16*k:], e)
	}
	headSealed(want)
	if !bytes.Equal(b, want) {
		t.Errorf("P13.1: %s", unlike(b, want))
	}
}

// TestBytes: P13.1: each section's bytes, written out.
func TestBytes(t *testing.T) {
	t.Parallel()
	b := encoded(t, small())
	for section, want := range []string{
		bus: "0200 0200 00000000" +
			"0010000000000000 0000010000000000" + "0000020000000000 8877665544332211" +
			"0000004000000000 0010000000000000" + "0500000000000080 0300000000000000",
		subjects: "0200 000000000000" + "03 01 01 3f 0401 0100" + "ff 00 fe fd ffff ffff",
		ports:    "0200 000000000000" + "ffff 000000000000" + "0102 000000000000",
		regions: "0300 000000000000" +
			"0010000000000000 0020000000000000 ff 000000 05000000 6669727374 000000" +
			"0700000000000000 0900000000000000 00 000000 08000000 6569676874206279" +
			"0000000000000000 0000000000000000 01 000000 00000000",
		channels: "0200 000000000000" + "0500 ffff 04 07 0000" + "ffff 5802 00 ff 0000",
		irqs:     "0200 000000000000" + "0200 0300 09 01 0000" + "ffff ffff 00 00 0000",
		plans: "0200 0200 ffff ffff" +
			"64000000 00000000" + "0200 000000000000" + "0000 0000 63000000" + "ffff 0000 01000000" + "0000 000000000000" +
			"ffffffff 00000000" + "0000 000000000000" + "0100 000000000000" + "feff 0000 feffffff",
		tables: "0100000000000000 0200000000000000 0300000000000000" + strings.Repeat("0000000000000000", 509) +
			strings.Repeat("0000000000000000", 511) + "0700000000000080",
	} {
		if section == header {
			continue
		}
		first, length := place(b, section)
		got, want := fmt.Sprintf("%x", b[first:first+length]), strings.ReplaceAll(want, " ", "")
		if got != want {
			t.Errorf("P13.1: section %d: %s, want %s", section, got, want)
		}
	}
	if got := fmt.Sprintf("%x", b[:24]); got != "42554c4b48454144"+"0100"+"0800"+"03000000"+"0030120000000000" {
		t.Errorf("P13.1: the header: %s", got)
	}
	holdEncode(t, "small", small(), api.OK)
}

// numberField is a number of an image, and between which it must be.
type numberField struct {
	name      string
	low, high int
	at        func(i *api.Image) *int
}

// numberFields are all numbers that an image has. (Effect of an irq has no
// place in the bytes.)
func numberFields() []numberField {
	const small, half, none, word = 255, 65535, 65534, 1<<32 - 1
	return []numberField{
		{"CPU", 0, small, func(i *api.Image) *int { return &i.Subjects[1].CPU }},
		{"Rule", 0, small, func(i *api.Image) *int { return &i.Subjects[1].Rule }},
		{"a subject's Vector", 0, small, func(i *api.Image) *int { return &i.Subjects[1].Vector }},
		{"a subject's To", -1, none, func(i *api.Image) *int { return &i.Subjects[1].To }},
		{"a subject's Root", -1, none, func(i *api.Image) *int { return &i.Subjects[1].Root }},
		{"a port's Root", -1, none, func(i *api.Image) *int { return &i.Devices[1].Root }},
		{"a channel's From", -1, none, func(i *api.Image) *int { return &i.Channels[1].From }},
		{"a channel's To", -1, none, func(i *api.Image) *int { return &i.Channels[1].To }},
		{"Effect", 0, small, func(i *api.Image) *int { return &i.Channels[1].Effect }},
		{"a channel's Vector", 0, small, func(i *api.Image) *int { return &i.Channels[1].Vector }},
		{"an irq's From", -1, none, func(i *api.Image) *int { return &i.Irqs[1].From }},
		{"an irq's To", -1, none, func(i *api.Image) *int { return &i.Irqs[1].To }},
		{"an irq's Vector", 0, small, func(i *api.Image) *int { return &i.Irqs[1].Vector }},
		{"Major", 0, word, func(i *api.Image) *int { return &i.Plans[1].Major }},
		{"a stint's Subject", -1, none, func(i *api.Image) *int { return &i.Plans[1].Lanes[1][0].Subject }},
		{"Ticks", 0, word, func(i *api.Image) *int { return &i.Plans[1].Lanes[1][0].Ticks }},
		{"Master", -1, none, func(i *api.Image) *int { return &i.Master }},
		{"Start", 0, half, func(i *api.Image) *int { return &i.Start }},
	}
}

// TestNumbers: P13.1: each number at its edges and far off.
func TestNumbers(t *testing.T) {
	t.Parallel()
	for _, f := range numberFields() {
		for _, n := range []int{math.MinInt, -1 << 32, -65536, -257, -256, -255, -2, -1, 0, 1, 254, 255, 256, 257, 65533, 65534, 65535, 65536,
			65791, 1<<31 - 1, 1 << 31, 1<<32 - 2, 1<<32 - 1, 1 << 32, 1<<32 + 1, 1 << 62, math.MaxInt} {
			i := small()
			*f.at(&i) = n
			want := api.OK
			if n < f.low || n > f.high {
				want = api.ErrField
			}
			holdEncode(t, fmt.Sprint(f.name, " ", n), i, want)
		}
	}
}

// TestWholeNumbers: P13.1: what fills its place whole.
func TestWholeNumbers(t *testing.T) {
	t.Parallel()
	for _, n := range []uint64{0, 1, 1<<32 - 1, 1 << 32, 1 << 63, math.MaxUint64} {
		i := small()
		i.Bus.Rams[1] = api.Range{At: n, Size: ^n}
		i.Bus.Devices[1] = api.Range{At: ^n, Size: n}
		i.Regions[2].At, i.Regions[2].Size, i.Regions[2].Fill = n, ^n, uint8(n)
		i.Tables[1][0], i.Tables[0][511] = n, ^n
		holdEncode(t, fmt.Sprintf("%#x", n), i, api.OK)
	}
	for _, base := range []uint64{0, 4096, 1 << 32, 1 << 63, math.MaxUint64 - 4095} {
		i := small()
		i.Base = base
		holdEncode(t, fmt.Sprintf("Base %#x", base), i, api.OK)
		for _, off := range []uint64{1, 8, 2048, 4095} {
			i.Base = base + off
			holdEncode(t, fmt.Sprintf("Base %#x", i.Base), i, api.ErrField)
		}
	}
}

// listOf is a list of an image, made so long.
type listOf struct {
	name string
	turn func(i *api.Image, n int)
}

func listsOf() []listOf {
	return []listOf{
		{"Rams", func(i *api.Image, n int) { i.Bus.Rams = make([]api.Range, n) }},
		{"Devices", func(i *api.Image, n int) { i.Bus.Devices, i.Devices = make([]api.Range, n), make([]api.Port, n) }},
		{"Subjects", func(i *api.Image, n int) { i.Subjects = make([]api.Tenant, n) }},
		{"Regions", func(i *api.Image, n int) { i.Regions = make([]api.Ground, n) }},
		{"Channels", func(i *api.Image, n int) { i.Channels = make([]api.Link, n) }},
		{"Irqs", func(i *api.Image, n int) {
			i.Irqs = make([]api.Link, n)
			for k := range i.Irqs {
				i.Irqs[k].Effect = api.ByVector
			}
		}},
		{"Plans", func(i *api.Image, n int) { i.Plans = make([]api.Schedule, n) }},
		{"Lanes", func(i *api.Image, n int) { i.Plans = []api.Schedule{{Lanes: make([][]api.Stint, n)}} }},
		{"Stints", func(i *api.Image, n int) { i.Plans[1].Lanes[1] = make([]api.Stint, n) }},
	}
}

// TestLists: P13.1: lists as long as may be, and longer.
func TestLists(t *testing.T) {
	t.Parallel()
	for _, l := range listsOf() {
		for _, c := range []struct {
			n    int
			want api.Errno
		}{{0, api.OK}, {1, api.OK}, {255, api.OK}, {256, api.OK}, {65534, api.OK}, {65535, api.OK}, {65536, api.ErrField}, {65537, api.ErrField}, {1 << 17, api.ErrField}} {
			i := small()
			l.turn(&i, c.n)
			holdEncode(t, fmt.Sprint(c.n, " ", l.name), i, c.want)
		}
	}
}

// TestOddImages: P13.1: what else is ErrField.
func TestOddImages(t *testing.T) {
	t.Parallel()
	lanes := func(counts ...int) func(i *api.Image) {
		return func(i *api.Image) {
			i.Plans = nil
			for _, n := range counts {
				i.Plans = append(i.Plans, api.Schedule{Lanes: make([][]api.Stint, n)})
			}
		}
	}
	for _, c := range []struct {
		name string
		turn func(i *api.Image)
		want api.Errno
	}{
		{"a window without a port", func(i *api.Image) { i.Devices = i.Devices[:1] }, api.ErrField},
		{"no ports", func(i *api.Image) { i.Devices = nil }, api.ErrField},
		{"a port without a window", func(i *api.Image) { i.Bus.Devices = i.Bus.Devices[:1] }, api.ErrField},
		{"no windows", func(i *api.Image) { i.Bus.Devices = nil }, api.ErrField},
		{"neither", func(i *api.Image) { i.Bus.Devices, i.Devices = nil, nil }, api.OK},
		{"rams are no windows", func(i *api.Image) { i.Bus.Rams = nil }, api.OK},
		{"a channel that is masked", func(i *api.Image) { i.Channels[1].Masked = true }, api.ErrField},
		{"an irq that is masked", func(i *api.Image) { i.Irqs[1].Masked = true }, api.OK},
		{"an irq without effect", func(i *api.Image) { i.Irqs[1].Effect = 0 }, api.ErrField},
		{"an irq that resets", func(i *api.Image) { i.Irqs[1].Effect = api.ByReset }, api.ErrField},
		{"an irq below", func(i *api.Image) { i.Irqs[0].Effect = -1 }, api.ErrField},
		{"an irq by 257", func(i *api.Image) { i.Irqs[0].Effect = 257 }, api.ErrField},
		{"no plan", lanes(), api.OK},
		{"a plan without lanes", lanes(0), api.OK},
		{"lanes alike", lanes(3, 3, 3), api.OK},
		{"the second has fewer", lanes(3, 2), api.ErrField},
		{"the second has more", lanes(3, 4), api.ErrField},
		{"the second has none", lanes(1, 0), api.ErrField},
		{"the first has none", lanes(0, 1), api.ErrField},
		{"the last one alone", lanes(2, 2, 2, 1), api.ErrField},
		{"up and down again", lanes(2, 3, 2), api.ErrField},
	} {
		i := small()
		c.turn(&i)
		holdEncode(t, c.name, i, c.want)
		if why := refused(i); why != c.want {
			t.Errorf("the model: %s: %v, want %v", c.name, why, c.want)
		}
	}
}

// TestTexts: P13.1: texts of all lengths about a multiple of 8, and the longest.
func TestTexts(t *testing.T) {
	t.Parallel()
	for n := range 40 {
		i := small()
		i.Regions[0].Text = strings.Repeat("\xff", n)
		i.Regions[2].Text = strings.Repeat("\x00", n)
		holdEncode(t, fmt.Sprint(n, " bytes of text"), i, api.OK)
	}
	for n, want := range map[int]api.Errno{1<<20 - 1: api.OK, 1 << 20: api.OK, 1<<20 + 1: api.ErrLong, 1<<20 + 8: api.ErrLong, 1 << 23: api.ErrLong} {
		i := small()
		i.Regions[2].Text = strings.Repeat("t", n)
		holdEncode(t, fmt.Sprint(n, " bytes of text"), i, want)
	}
	i := small()
	i.Regions[0].Text = "bytes \x00\xff\xfe of no \xc3( text\n"
	holdEncode(t, "no text", i, api.OK)
	if b := encoded(t, api.Image{Regions: []api.Ground{{Text: "12345"}}}); string(b[216:224]) != "12345\x00\x00\x00" {
		t.Errorf("P13.1: three zeros behind a text of 5 bytes: %q", b[216:224])
	}
}

// filled is an image without tables whose sections end at a byte.
func filled(end int) api.Image {
	i := api.Image{}
	room := end - 216
	for room > 0 {
		n := min(room-24, 1<<20)
		if room -= n + 24; room > 0 && room < 24 {
			n, room = n-24, room+24
		}
		i.Regions = append(i.Regions, api.Ground{Text: strings.Repeat("f", n)})
	}
	return i
}

// TestPages: P13.1: how many pages there are, and the most.
func TestPages(t *testing.T) {
	t.Parallel()
	for _, c := range []struct{ end, tables, want int }{
		{216, 0, 1}, {216, 1, 2}, {216, 2, 3},
		{4088, 0, 1}, {4096, 0, 1}, {4104, 0, 2}, {4088, 1, 2}, {4096, 1, 2}, {4104, 1, 3},
		{8192, 0, 2}, {8200, 0, 3},
		{216, 1022, 1023}, {216, 1023, 1024}, {4096, 1023, 1024}, {8192, 1022, 1024},
		{1023 * 4096, 1, 1024}, {1024*4096 - 8, 0, 1024}, {1024 * 4096, 0, 1024},
		{216, 1024, 0}, {216, 1025, 0}, {4104, 1023, 0}, {8200, 1022, 0}, {1023*4096 + 8, 1, 0},
		{1024*4096 + 8, 0, 0}, {1024 * 4096, 1, 0}, {216, 5000, 0}, {1 << 26, 0, 0},
	} {
		i := filled(c.end)
		i.Tables = make([]api.Table, c.tables)
		want := api.OK
		if c.want == 0 {
			want = api.ErrMany
		}
		where := fmt.Sprintf("sections up to %d, %d tables", c.end, c.tables)
		holdEncode(t, where, i, want)
		if n, _ := Size(i); n != c.want {
			t.Errorf("P13.1: %s: %d pages, want %d", where, n, c.want)
		}
	}
}

// TestOrder: P13.1: ErrField goes ahead of ErrLong, and that ahead of ErrMany,
// wherever they stand.
func TestOrder(t *testing.T) {
	t.Parallel()
	long := func(i *api.Image) { i.Regions[1].Text = strings.Repeat("l", 1<<20+1) }
	many := func(i *api.Image) { i.Tables = make([]api.Table, 1025) }
	odd := map[string]func(i *api.Image){
		"Base":  func(i *api.Image) { i.Base = 1 },
		"ports": func(i *api.Image) { i.Devices = nil },
		"Start": func(i *api.Image) { i.Start = -1 },
		"CPU":   func(i *api.Image) { i.Subjects[0].CPU = 256 },
		"Ticks": func(i *api.Image) { i.Plans[1].Lanes[1][0].Ticks = -1 },
	}
	for name, field := range odd {
		for _, turns := range [][]func(i *api.Image){{field, long}, {field, many}, {field, long, many}} {
			i := small()
			for _, turn := range turns {
				turn(&i)
			}
			holdEncode(t, name+" and more", i, api.ErrField)
		}
	}
	i := small()
	long(&i)
	many(&i)
	holdEncode(t, "long and many", i, api.ErrLong)
	// All lists are as long as may be: each has its place, together there are
	// too many pages.
	i = small()
	for _, l := range listsOf() {
		if l.name != "Lanes" && l.name != "Stints" {
			l.turn(&i, 65535)
		}
	}
	holdEncode(t, "the longest lists", i, api.ErrMany)
	i.Channels[65534].Masked = true
	holdEncode(t, "the longest lists, and the last channel", i, api.ErrField)
}

// TestMuch: P13.1: a great text in each of many regions takes no room.
func TestMuch(t *testing.T) {
	t.Parallel()
	text := strings.Repeat("m", api.MaxText)
	i := api.Image{Regions: make([]api.Ground, 65535)}
	for k := range i.Regions {
		i.Regions[k].Text = text
	}
	holdEncode(t, "65535 texts", i, api.ErrMany)
	i.Regions = i.Regions[:3]
	holdEncode(t, "three texts", i, api.OK)
	i.Regions[2].Text += "m"
	holdEncode(t, "the third text too long", i, api.ErrLong)
}

// TestOtherBytes: P13.2: no two images that differ in one field have the same
// bytes; lists nil and empty are alike.
func TestOtherBytes(t *testing.T) {
	t.Parallel()
	seen := map[string]string{string(encoded(t, small())): "small"}
	hold := func(name string, turn func(i *api.Image)) {
		t.Helper()
		i := small()
		turn(&i)
		b := string(encoded(t, i))
		if other, twice := seen[b]; twice {
			t.Errorf("P13.2: %s and %s have one spelling", name, other)
		}
		seen[b] = name
	}
	for _, f := range numberFields() {
		for _, n := range []int{17, 18, f.low + 2, f.high - 7} {
			i := small()
			if *f.at(&i) != n {
				hold(fmt.Sprint(f.name, " ", n), func(i *api.Image) { *f.at(i) = n })
			}
		}
	}
	for name, turn := range map[string]func(i *api.Image){
		"Base":                func(i *api.Image) { i.Base += 4096 },
		"a ram's At":          func(i *api.Image) { i.Bus.Rams[0].At++ },
		"a ram's Size":        func(i *api.Image) { i.Bus.Rams[0].Size++ },
		"one ram less":        func(i *api.Image) { i.Bus.Rams = i.Bus.Rams[:1] },
		"a window's At":       func(i *api.Image) { i.Bus.Devices[1].At++ },
		"a window's Size":     func(i *api.Image) { i.Bus.Devices[1].Size++ },
		"Stopped":             func(i *api.Image) { i.Subjects[0].Stopped = false },
		"Stopped, the second": func(i *api.Image) { i.Subjects[1].Stopped = true },
		"a subject less":      func(i *api.Image) { i.Subjects = i.Subjects[:1] },
		"subjects swapped":    func(i *api.Image) { i.Subjects[0], i.Subjects[1] = i.Subjects[1], i.Subjects[0] },
		"a region's At":       func(i *api.Image) { i.Regions[0].At++ },
		"a region's Size":     func(i *api.Image) { i.Regions[0].Size++ },
		"Fill":                func(i *api.Image) { i.Regions[0].Fill-- },
		"a zero behind Text":  func(i *api.Image) { i.Regions[0].Text += "\x00" },
		"zeros behind Text":   func(i *api.Image) { i.Regions[0].Text += "\x00\x00\x00" },
		"Text":                func(i *api.Image) { i.Regions[0].Text = "fires" },
		"no Text":             func(i *api.Image) { i.Regions[0].Text = "" },
		"a region more":       func(i *api.Image) { i.Regions = append(i.Regions, api.Ground{}) },
		"a channel less":      func(i *api.Image) { i.Channels = i.Channels[:1] },
		"Masked":              func(i *api.Image) { i.Irqs[0].Masked = false },
		"an irq less":         func(i *api.Image) { i.Irqs = i.Irqs[:1] },
		"a plan less":         func(i *api.Image) { i.Plans = i.Plans[:1] },
		"no plans":            func(i *api.Image) { i.Plans = nil },
		"a plan without lanes": func(i *api.Image) {
			i.Plans = []api.Schedule{{Major: 100}}
		},
		"a lane without stints": func(i *api.Image) { i.Plans = []api.Schedule{{Major: 100, Lanes: [][]api.Stint{nil}}} },
		"stints moved":          func(i *api.Image) { l := i.Plans[0].Lanes; l[0], l[1] = l[1], l[0] },
		"a stint less":          func(i *api.Image) { i.Plans[0].Lanes[0] = i.Plans[0].Lanes[0][:1] },
		"an entry":              func(i *api.Image) { i.Tables[1][300] = 1 },
		"tables swapped":        func(i *api.Image) { i.Tables[0], i.Tables[1] = i.Tables[1], i.Tables[0] },
		"a table less":          func(i *api.Image) { i.Tables = i.Tables[:1] },
		"an empty table more":   func(i *api.Image) { i.Tables = append(i.Tables, api.Table{}) },
	} {
		hold(name, turn)
	}
	empty := api.Image{
		Bus: api.Bus{Rams: []api.Range{}, Devices: []api.Range{}}, Subjects: []api.Tenant{}, Devices: []api.Port{}, Regions: []api.Ground{},
		Channels: []api.Link{}, Irqs: []api.Link{}, Plans: []api.Schedule{}, Tables: []api.Table{},
	}
	if !bytes.Equal(encoded(t, empty), encoded(t, api.Image{})) {
		t.Errorf("P13.2: lists nil and empty are not alike")
	}
	one, two := small(), small()
	one.Plans = []api.Schedule{{Lanes: [][]api.Stint{nil, {}}}, {Lanes: [][]api.Stint{{}, nil}}}
	two.Plans = []api.Schedule{{Lanes: [][]api.Stint{{}, nil}}, {Lanes: [][]api.Stint{nil, {}}}}
	if !bytes.Equal(encoded(t, one), encoded(t, two)) {
		t.Errorf("P13.2: lanes nil and empty are not alike")
	}
}

// TestEncodeKeeps: R2: what is handed in stays as it was, and the answer is
// nobody else's.
func TestEncodeKeeps(t *testing.T) {
	t.Parallel()
	i := small()
	spare := append(make([]api.Tenant, 0, 9), i.Subjects...)
	spare[:3][2].CPU = 77
	i.Subjects = spare
	first := encoded(t, i)
	if !alike(i, small()) || spare[:3][2].CPU != 77 {
		t.Errorf("R2: the image was changed")
	}
	clear(first[:cap(first)])
	if !bytes.Equal(encoded(t, i), spelt(small())) {
		t.Errorf("R2: two answers share memory")
	}
}

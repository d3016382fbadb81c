package check

import (
	"fmt"
	"math"
	"slices"
	"strings"
	"testing"

	"bulkhead/api"
)

// TestTables: P10.2: each row a space, of objects of a page (p), a big page
// (b), a window (w) and others.
func TestTables(t *testing.T) {
	t.Parallel()
	const most = math.MaxUint64
	p := api.Policy{
		Regions: []api.Region{
			{Name: "p", Size: 4096},
			{Name: "b", Size: 1 << 21, Big: true},
			{Name: "b2", Size: 1 << 22, Big: true},
			{Name: "m", Size: 1 << 26},
			{Name: "over", Size: 1<<26 + 1},
			{Name: "none"},
			{Name: "two", Size: 4096, Big: true},
			{Name: "two", Size: 1 << 22},
			{Name: "both", Size: 4096, Big: true},
			{Name: "odd", Size: 5000},
		},
		Devices: []api.Device{
			{Name: "both", Size: 1 << 20},
			{Name: "w", Size: 1 << 20},
			{Name: "w", Size: 1 << 22},
		},
	}
	of := func(name string, at uint64) api.Map { return api.Map{Of: name, At: at} }
	for _, c := range []struct {
		what string
		maps []api.Map
		want int
	}{
		{"none", nil, 1},
		{"an empty list", []api.Map{}, 1},
		{"a page", []api.Map{of("p", 0)}, 3},
		{"the last page", []api.Map{of("p", 1<<39-4096)}, 3},
		{"a page beyond", []api.Map{of("p", 1<<39-4095)}, 0},
		{"a page far beyond", []api.Map{of("p", most-4095)}, 0},
		{"a page over the wrap", []api.Map{of("p", most)}, 0},
		{"two pages in one table", []api.Map{of("p", 0), of("p", 1<<21-4096)}, 3},
		{"two pages in two tables", []api.Map{of("p", 0), of("p", 1<<21)}, 4},
		{"two pages in two of the first level", []api.Map{of("p", 0), of("p", 1<<30)}, 5},
		{"a page at two places of one table", []api.Map{of("p", 4096), of("p", 4096)}, 3},
		{"a big page", []api.Map{of("b", 0)}, 2},
		{"a big page beside a page", []api.Map{of("b", 1<<21), of("p", 0)}, 3},
		{"big pages in two of the first level", []api.Map{of("b2", 1<<30-1<<21)}, 3},
		{"a window", []api.Map{of("w", 0)}, 3},
		{"a window over a table's end", []api.Map{of("w", 1<<21-4096)}, 4},
		{"over the end of the first level", []api.Map{of("w", 1<<30-4096)}, 5},
		{"the largest", []api.Map{of("m", 0)}, 1 + 1 + 32},
		{"the largest, not from a table on", []api.Map{of("m", 4096)}, 1 + 1 + 33},
		{"larger", []api.Map{of("over", 0)}, 0},
		{"nothing", []api.Map{of("none", 0), of("none", 1<<39)}, 1},
		{"nothing, beyond", []api.Map{of("none", 1<<39+1)}, 0},
		{"a stranger", []api.Map{of("p", 0), of("x", 0)}, 0},
		{"an empty name", []api.Map{of("", 0)}, 0},
		{"of two regions the first", []api.Map{of("two", 0)}, 2},
		{"of a region and a device the region", []api.Map{of("both", 0)}, 2},
		{"of two devices the first", []api.Map{of("w", 1<<20)}, 3},
		{"no multiples", []api.Map{of("odd", 1<<21-4999)}, 4},
		{"no multiples, all in one", []api.Map{of("odd", 1<<21-5000)}, 3},
	} {
		before := slices.Clone(c.maps)
		if n := Tables(c.maps, p); n != c.want {
			t.Errorf("P10.2: %s: %d, want %d", c.what, n, c.want)
		}
		if !slices.Equal(c.maps, before) {
			t.Errorf("R2: %s: the maps were changed: %+v", c.what, c.maps)
		}
	}
	var all []api.Map
	for i := range uint64(1 << 18) {
		all = append(all, of("p", 1<<39-4096-i<<21))
	}
	if n := Tables(all, p); n != 1+512+1<<18 {
		t.Errorf("P10.2: all tables: %d", n)
	}
}

// aheadOf is a policy whose image has so many bytes ahead of its tables: the
// least is 160 and 8 for each of the seven lists.
func aheadOf(bytes int) api.Policy {
	const least, region = 160 + 7*8, 24
	return api.Policy{Regions: []api.Region{{Texted: true, Text: strings.Repeat("t", bytes-least-region)}}}
}

// TestPagesAhead: P10.3: the bytes ahead of the tables, each list's by itself:
// with them the last page is full, and 8 bytes more are a page more.
func TestPagesAhead(t *testing.T) {
	t.Parallel()
	lane := func(cpu uint64, runs ...api.Run) api.Lane { return api.Lane{CPU: cpu, Runs: runs} }
	a, b := api.Run{Subject: "a", Budget: 1}, api.Run{Subject: "b", Budget: 1}
	const bare = 8 + 4*(8+8) // a plan without lanes
	for _, c := range []struct {
		what  string
		bytes int
		pages int // of tables
		add   func(p *api.Policy)
	}{
		{"nothing more", 0, 0, func(p *api.Policy) {}},
		{"rams", 3 * 16, 0, func(p *api.Policy) { p.Rams = make([]api.Ram, 3) }},
		{"devices", 3 * (16 + 8), 0, func(p *api.Policy) { p.Devices = make([]api.Device, 3) }},
		{"subjects", 3 * 8, 3, func(p *api.Policy) { p.Subjects = make([]api.Subject, 3) }},
		{"regions", 3 * 24, 0, func(p *api.Policy) { p.Regions = append(p.Regions, make([]api.Region, 3)...) }},
		{"a text of one byte", 24 + 8, 0, func(p *api.Policy) { p.Regions = append(p.Regions, api.Region{Text: "1"}) }},
		{"a text of eight bytes", 24 + 8, 0, func(p *api.Policy) { p.Regions = append(p.Regions, api.Region{Text: "12345678"}) }},
		{"a text of nine bytes", 24 + 16, 0, func(p *api.Policy) { p.Regions = append(p.Regions, api.Region{Text: "123456789"}) }},
		{"channels", 3 * 8, 0, func(p *api.Policy) { p.Channels = make([]api.Channel, 3) }},
		{"irqs", 3 * 8, 0, func(p *api.Policy) { p.Irqs = make([]api.IrqLine, 3) }},
		{"masters and starts", 0, 0, func(p *api.Policy) { p.Masters, p.Starts = make([]api.Pick, 3), make([]api.Pick, 3) }},
		{"a plan", bare, 0, func(p *api.Policy) { p.Plans = []api.Plan{{Major: 1}} }},
		{"plans without a frame", 3 * bare, 0, func(p *api.Policy) { p.Plans = make([]api.Plan, 3) }},
		{"a lane of one slot", bare, 0, func(p *api.Policy) { p.Plans = []api.Plan{{Major: 1, Lanes: []api.Lane{lane(3, a)}}} }},
		{"a lane of no runs", bare, 0, func(p *api.Policy) { p.Plans = []api.Plan{{Major: 5, Lanes: []api.Lane{lane(3)}}} }},
		{"a lane of three slots", bare + 2*8, 0, func(p *api.Policy) { p.Plans = []api.Plan{{Major: 3, Lanes: []api.Lane{lane(2, a, b)}}} }},
		{"lanes of two and three", bare + 3*8, 0, func(p *api.Policy) {
			p.Plans = []api.Plan{{Major: 3, Lanes: []api.Lane{lane(2, a, b), lane(0, a)}}}
		}},
		{"neighbours are one slot", bare + 8, 0, func(p *api.Policy) { p.Plans = []api.Plan{{Major: 3, Lanes: []api.Lane{lane(2, a, a)}}} }},
		{"needs", bare + 3*8, 0, func(p *api.Policy) {
			p.Plans = []api.Plan{{Major: 4, Lanes: []api.Lane{{CPU: 1, Needs: true, Runs: []api.Run{{Subject: "a", Budget: 1, Period: 2}}}}}}
		}},
		{"of two of one CPU the first", bare + 8, 0, func(p *api.Policy) {
			p.Plans = []api.Plan{{Major: 3, Lanes: []api.Lane{lane(2, a), lane(2, a, b)}}}
		}},
		{"of two of one CPU the first, which is refused", bare - 8, 0, func(p *api.Policy) {
			p.Plans = []api.Plan{{Major: 1, Lanes: []api.Lane{lane(2, a, b), lane(2, a)}}}
		}},
		{"a CPU that there isn't", bare, 0, func(p *api.Policy) { p.Plans = []api.Plan{{Major: 3, Lanes: []api.Lane{lane(4, a, b)}}} }},
		{"lanes that are refused", bare - 2*8, 0, func(p *api.Policy) {
			p.Plans = []api.Plan{{Major: 1, Lanes: []api.Lane{lane(2, a, b), lane(1, api.Run{})}}}
		}},
		{"lanes of no frame", bare - 8, 0, func(p *api.Policy) { p.Plans = []api.Plan{{Lanes: []api.Lane{lane(2)}}} }},
	} {
		for _, full := range []int{1, 3} {
			p := aheadOf(4096*full - c.bytes)
			c.add(&p)
			if n := Pages(p); n != full+c.pages {
				t.Errorf("P10.3: %s: %d, want %d", c.what, n, full+c.pages)
			}
			p = aheadOf(4096*full - c.bytes + 1)
			c.add(&p)
			if n := Pages(p); n != full+c.pages+1 {
				t.Errorf("P10.3: %s, and a byte more: %d, want %d", c.what, n, full+c.pages+1)
			}
		}
	}
	if n := Pages(api.Policy{}); n != 1 {
		t.Errorf("P10.3: of nothing: %d", n)
	}
}

// TestPagesTables: P10.3: the tables of each subject, and of each device that
// has maps.
func TestPagesTables(t *testing.T) {
	t.Parallel()
	base := func() api.Policy {
		return api.Policy{
			Regions:  []api.Region{{Name: "r", Size: 4096}},
			Devices:  []api.Device{{Name: "d", Size: 4096}, {Name: "e", Maps: []api.Map{{Of: "r"}}}},
			Subjects: []api.Subject{{Name: "a"}, {Name: "b", Maps: []api.Map{{Of: "r"}, {Of: "d", At: 1 << 30}}}},
		}
	}
	for _, c := range []struct {
		what   string
		change func(p *api.Policy)
		want   int
	}{
		{"as it is", func(p *api.Policy) {}, 1 + 1 + 5 + 3},
		{"a device's map more", func(p *api.Policy) { p.Devices[0].Maps = []api.Map{{Of: "r"}} }, 1 + 1 + 5 + 3 + 3},
		{"a device's list that is empty", func(p *api.Policy) { p.Devices[0].Maps = []api.Map{} }, 1 + 1 + 5 + 3},
		{"a device maps a device", func(p *api.Policy) { p.Devices[1].Maps[0].Of = "d" }, 1 + 1 + 5 + 3},
		{"a subject's stranger", func(p *api.Policy) { p.Subjects[1].Maps[1].Of = "x" }, 0},
		{"a device's stranger", func(p *api.Policy) { p.Devices[1].Maps[0].Of = "x" }, 0},
		{"a map beyond", func(p *api.Policy) { p.Subjects[1].Maps[1].At = 1 << 39 }, 0},
		{"a region too large", func(p *api.Policy) { p.Regions[0].Size = 1<<26 + 4096 }, 0},
	} {
		p := base()
		c.change(&p)
		if n := Pages(p); n != c.want {
			t.Errorf("P10.3: %s: %d, want %d", c.what, n, c.want)
		}
	}
}

// TestLarge: P10.1, group 8: 1024 pages, and one more.
func TestLarge(t *testing.T) {
	t.Parallel()
	for _, c := range []struct {
		more, pages, place int
		why                api.Errno
	}{
		{0, 1024, 0, api.OK},
		{1, 1025, 77, api.ErrLarge},
	} {
		p := policy(t, `system s { ram 0 size 64K; region r size 4K; plan p major 1 { } start p; }`)
		p.Pos = 77
		// 7 times 1 + 64 + 64, one of 1 + 58 + 58, and some of 1
		for i := range 11 + c.more {
			s := api.Subject{Pos: i, Name: fmt.Sprint("s.", i)}
			for k := range []int{64, 64, 64, 64, 64, 64, 64, 58, 0, 0, 0, 0}[i] {
				s.Maps = append(s.Maps, api.Map{Pos: i, Of: "r", At: uint64(k) << 30})
			}
			p.Subjects = append(p.Subjects, s)
		}
		if n := Pages(p); n != c.pages {
			t.Errorf("P10.3: %d, want %d", n, c.pages)
		}
		if at, why := Check(p); at != c.place || why != c.why {
			t.Errorf("P10.1: %d pages: %d, %v", c.pages, at, why)
		}
	}
}

// TestManySpaces: P10.3: a policy far larger than Check takes.
func TestManySpaces(t *testing.T) {
	t.Parallel()
	const n = 50000
	var p api.Policy
	for i := range n {
		p.Regions = append(p.Regions, api.Region{Name: fmt.Sprint("r.", i), Size: 4096})
		p.Subjects = append(p.Subjects, api.Subject{Maps: []api.Map{{Of: fmt.Sprint("r.", n-1-i)}}})
	}
	want := (160+7*8+n*24+n*8+4095)/4096 + 3*n
	if pages := Pages(p); pages != want {
		t.Errorf("P10.3: %d, want %d", pages, want)
	}
}

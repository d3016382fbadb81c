package boot

import (
	"fmt"
	"math/rand"
	"reflect"
	"slices"
	"strings"
	"testing"

	"bulkhead/api"
	"bulkhead/bundle"
	"bulkhead/bus"
	"bulkhead/forge"
	"bulkhead/walk"
)

func pick[T any](r *rand.Rand, list ...T) T { return list[r.Intn(len(list))] }

// maker makes images at random that may run, and spoils them.
type maker struct {
	*rand.Rand
	bus   api.Bus
	image api.Image
	tree  [][]int // of each table the tables that it names; nil of a last one
}

// several makes so many things at most.
func several[T any](m *maker, most int, one func() T) []T {
	out := make([]T, m.Intn(most+1))
	for n := range out {
		out[n] = one()
	}
	return out
}

// made makes an image: first what tells its length, then where it lies, and
// then what must lie elsewhere.
func (m *maker) made() api.Image {
	m.image, m.tree = api.Image{Master: -1}, nil
	m.ground()
	i := &m.image
	i.Bus = m.bus
	for range m.Intn(5) {
		i.Subjects = append(i.Subjects, api.Tenant{CPU: m.Intn(4), Root: m.root(), Stopped: m.Intn(2) == 0, To: -1})
	}
	for range m.bus.Devices {
		i.Devices = append(i.Devices, api.Port{Root: -1})
	}
	for n := range i.Devices {
		if m.Intn(3) == 0 {
			i.Devices[n].Root = m.root()
		}
	}
	m.links()
	i.Plans = append(several(m, 2, m.plan), m.plan())
	i.Start = m.Intn(len(i.Plans))
	i.Regions = several(m, 5, func() api.Ground {
		if m.Intn(2) == 0 {
			return api.Ground{Text: "some text"[:m.Intn(9)]}
		}
		return api.Ground{Fill: uint8(m.Intn(256))}
	})
	i.Tables = make([]api.Table, len(m.tree))
	m.lay()
	return m.image
}

// ground is a bus of spans and windows, of which some touch.
func (m *maker) ground() {
	m.bus = api.Bus{}
	at := pick[uint64](m.Rand, 0, 1<<21, 1<<22, 1<<32-1<<24)
	for range 2 + m.Intn(4) {
		r := api.Range{At: at, Size: pick[uint64](m.Rand, 4096, 1<<14, 1<<16, 1<<20, 1<<21)}
		if m.Intn(3) == 0 && len(m.bus.Rams) > 0 {
			r.Size = min(r.Size, 1<<20)
			m.bus.Devices = append(m.bus.Devices, r)
		} else {
			r.Size = max(r.Size, 1<<20)
			m.bus.Rams = append(m.bus.Rams, r)
		}
		at += r.Size + pick[uint64](m.Rand, 0, 0, 4096, 1<<20)
	}
	m.Shuffle(len(m.bus.Rams), reflect.Swapper(m.bus.Rams))
	m.Shuffle(len(m.bus.Devices), reflect.Swapper(m.bus.Devices))
}

// root makes a tree of tables, and tells the number of its root.
func (m *maker) root() int {
	root := len(m.tree)
	m.tree = append(m.tree, []int{})
	for range m.Intn(3) {
		middle := len(m.tree)
		m.tree[root] = append(m.tree[root], middle)
		m.tree = append(m.tree, []int{})
		for range m.Intn(3) {
			m.tree[middle] = append(m.tree[middle], len(m.tree))
			m.tree = append(m.tree, nil)
		}
	}
	return root
}

func (m *maker) links() {
	i := &m.image
	many := len(i.Subjects)
	if many == 0 {
		return
	}
	for n := range i.Subjects {
		s := &i.Subjects[n]
		if s.Rule = m.Intn(4); s.Rule == api.ByVector && many > 1 {
			s.To, s.Vector = (n+1+m.Intn(many-1))%many, m.Intn(64)
		} else if s.Rule == api.ByVector {
			s.Rule = 0
		}
	}
	for range m.Intn(4) * min(many-1, 1) {
		c := api.Link{From: m.Intn(many), Effect: 1 + m.Intn(4)}
		c.To = (c.From + 1 + m.Intn(many-1)) % many
		if c.Effect == api.ByVector {
			c.Vector = m.Intn(64)
		}
		i.Channels = append(i.Channels, c)
	}
	for range m.Intn(4) * min(len(i.Devices), 1) {
		i.Irqs = append(i.Irqs, api.Link{From: m.Intn(len(i.Devices)), To: m.Intn(many), Effect: api.ByVector, Vector: m.Intn(64), Masked: m.Intn(2) == 0})
	}
	i.Master = m.Intn(many+1) - 1
}

func (m *maker) plan() api.Schedule {
	p := api.Schedule{Major: pick(m.Rand, 1, 2, 10, 65536)}
	for cpu := range 4 {
		who := []int{-1}
		for n, s := range m.image.Subjects {
			if s.CPU == cpu {
				who = append(who, n)
			}
		}
		var lane []api.Stint
		for left := p.Major; left > 0; {
			s := api.Stint{Subject: pick(m.Rand, who...), Ticks: min(left, 1+m.Intn(p.Major/2+1))}
			if k := len(lane); k > 0 && lane[k-1].Subject == s.Subject {
				lane[k-1].Ticks += s.Ticks
			} else {
				lane = append(lane, s)
			}
			left -= s.Ticks
		}
		p.Lanes = append(p.Lanes, lane)
	}
	return p
}

// lay finds places for the image, the regions and the leaves.
func (m *maker) lay() {
	i := &m.image
	pages, _ := bundle.Size(*i)
	ram := pick(m.Rand, m.bus.Rams...)
	i.Base = ram.At + 4096*uint64(m.Intn(int(ram.Size/4096)-pages+1))
	var free, any []uint64 // pages of RAM outside the image; and of windows
	for _, r := range m.bus.Rams {
		for at := r.At; at < r.At+r.Size; at += 4096 {
			if at < i.Base || at >= i.Base+4096*uint64(pages) {
				free = append(free, at)
			}
		}
	}
	any = slices.Clone(free)
	for _, r := range m.bus.Devices {
		for at := r.At; at < r.At+r.Size; at += 4096 {
			any = append(any, at)
		}
	}
	m.regions(free)
	frame := func(table int) uint64 { return i.Base + 4096*uint64(pages-len(i.Tables)+table) }
	for n, below := range m.tree {
		at := m.Perm(512)[:len(below)]
		slices.Sort(at)
		for k, other := range below {
			i.Tables[n][at[k]] = frame(other) | 1
		}
		for range m.Intn(5) {
			if below == nil && len(any) > 0 {
				i.Tables[n][m.Intn(512)] = pick(m.Rand, any...) | 1 | uint64(m.Intn(4))<<1
			}
		}
	}
	m.bigLeaves(free)
}

// regions lie in free pages, none over another.
func (m *maker) regions(free []uint64) {
	taken := map[uint64]bool{}
	var list []api.Ground
	for _, g := range m.image.Regions {
		at, size := pick(m.Rand, free...), uint64(0)
		for n := uint64(0); n < uint64(1+m.Intn(5)); n++ {
			if p := at + 4096*n; taken[p] || !slices.Contains(free, p) {
				break
			}
			taken[at+4096*n] = true
			size += 4096
		}
		if g.At, g.Size = at, size; size > 0 {
			list = append(list, g)
		} else if len(list) > 0 {
			// As many regions as there were, so that the image stays as long
			// as it is.
			one := &list[len(list)-1]
			if one.Size == 4096 {
				continue
			}
			one.Size -= 4096
			g.At, g.Size = one.At+one.Size, 4096
			list = append(list, g)
		}
	}
	m.image.Regions = list
}

// bigLeaves stand in tables of the middle level, where free pages are a whole
// big page.
func (m *maker) bigLeaves(free []uint64) {
	isFree := map[uint64]bool{}
	for _, at := range free {
		isFree[at] = true
	}
	for n, below := range m.tree {
		middle := slices.ContainsFunc(m.tree, func(list []int) bool { return slices.Contains(list, n) }) && below != nil
		for _, at := range free {
			all := middle && at%(1<<21) == 0 && m.Intn(2) == 0
			for p := uint64(0); all && p < 512; p++ {
				all = isFree[at+4096*p]
			}
			if e := m.Intn(512); all && m.image.Tables[n][e] == 0 {
				m.image.Tables[n][e] = at | 9 | uint64(m.Intn(4))<<1
			}
		}
	}
}

// spoil changes one thing.
func (m *maker) spoil(i *api.Image) {
	number := func() int { return pick(m.Rand, -1, 0, 1, 2, 3, 4, 5, 63, 64, 255) }
	byteOf := func() int { return max(number(), 0) }
	address := func() uint64 {
		base := pick(m.Rand, i.Base, i.Base-4096, i.Base+4096, 0, 1<<21, 1<<22, 1<<32, 1<<64-4096)
		if len(m.bus.Rams) > 0 && m.Intn(2) == 0 {
			r := pick(m.Rand, append(slices.Clone(m.bus.Rams), m.bus.Devices...)...)
			base = pick(m.Rand, r.At, r.At+r.Size, r.At-4096, r.At+r.Size-4096)
		}
		return base + pick[uint64](m.Rand, 0, 0, 0, 0, 0, 1)
	}
	switch m.Intn(12) {
	case 0:
		if i.Base = address() &^ 0xfff; m.Intn(3) == 0 && len(i.Bus.Rams) > 1 {
			i.Bus.Rams = i.Bus.Rams[1:]
		}
	case 1, 2:
		if len(i.Subjects) > 0 {
			s := &i.Subjects[m.Intn(len(i.Subjects))]
			switch m.Intn(3) {
			case 0:
				*pick(m.Rand, &s.CPU, &s.Rule, &s.Vector) = byteOf()
			case 1:
				*pick(m.Rand, &s.To, &s.Root) = number()
			case 2:
				s.Rule, s.To, s.Vector = api.ByVector, number(), byteOf()
			}
		}
	case 3:
		if len(i.Devices) > 0 {
			i.Devices[m.Intn(len(i.Devices))].Root = m.Intn(len(i.Tables)+3) - 1
		}
	case 4, 5:
		if len(i.Regions) > 0 {
			g := &i.Regions[m.Intn(len(i.Regions))]
			switch m.Intn(6) {
			case 0:
				g.At = address()
			case 1:
				g.Size = pick[uint64](m.Rand, 0, 1, 4096, 8192, 1<<20, 1<<21, 1<<64-4096)
			case 2:
				g.At = pick(m.Rand, i.Regions...).At
			case 3:
				g.Fill ^= 1
			case 4:
				g.Text += "x"
			case 5:
				g.Fill, g.Size = 1, 1<<20+4096
			}
		}
	case 6:
		if len(i.Channels) > 0 {
			c := &i.Channels[m.Intn(len(i.Channels))]
			switch m.Intn(4) {
			case 3:
				c.From = c.To
			case 0:
				*pick(m.Rand, &c.From, &c.To) = number()
			case 1:
				*pick(m.Rand, &c.Effect, &c.Vector) = byteOf()
			case 2:
				c.Effect, c.Vector = api.ByVector, byteOf()
			}
		}
	case 7:
		if len(i.Irqs) > 0 {
			q := &i.Irqs[m.Intn(len(i.Irqs))]
			if m.Intn(2) == 0 {
				q.Vector = byteOf()
			} else {
				*pick(m.Rand, &q.From, &q.To) = number()
			}
		}
	case 8:
		m.spoilPlans(i, number)
	default:
		m.spoilTable(i, address)
	}
}

func (m *maker) spoilPlans(i *api.Image, number func() int) {
	p := &i.Plans[m.Intn(len(i.Plans))]
	lane := p.Lanes[m.Intn(4)]
	switch m.Intn(6) {
	case 0:
		i.Master = number()
	case 1:
		i.Start = max(number(), 0)
	case 2:
		p.Major = pick(m.Rand, 0, 1, 10, 65536, 65537)
	case 3:
		lane[m.Intn(len(lane))].Ticks = m.Intn(4)
	default:
		lane[m.Intn(len(lane))].Subject = number()
	}
}

// spoilTable changes one entry, most often by little.
func (m *maker) spoilTable(i *api.Image, address func() uint64) {
	if len(i.Tables) == 0 {
		i.Tables = append(i.Tables, api.Table{})
		return
	}
	t := &i.Tables[m.Intn(len(i.Tables))]
	n := m.Intn(512)
	if k := slices.IndexFunc(t[:], func(e uint64) bool { return e != 0 }); k >= 0 && m.Intn(3) > 0 {
		n = k
	}
	other := pick(m.Rand, i.Tables...)
	switch m.Intn(7) {
	case 0:
		t[n] = address()&0xfffff000 | uint64(m.Intn(16))
	case 1:
		t[n] ^= 1 << m.Intn(64)
	case 2:
		t[n] ^= 1 << m.Intn(4)
	case 3:
		t[n] = 0
	case 4:
		t[n] = other[m.Intn(512)]
	case 5:
		t[n] += 4096
	case 6:
		t[n], t[(n+1)%512] = t[(n+1)%512], t[n]
	}
}

// holdAccepted holds what W6 says of an image that was taken and loaded: what
// its tables map, walked in the machine.
func holdAccepted(t *testing.T, m *bus.Machine, i api.Image, pages int) {
	t.Helper()
	end := i.Base + 4096*uint64(pages)
	root := func(n int) {
		at := i.Base + 4096*uint64(pages-len(i.Tables)+n)
		for leaf, why := range walk.Leaves(m, at, 1<<20) {
			first, _ := m.Where(leaf.Phys)
			for p := range uint64(leaf.Pages) {
				at := leaf.Phys + 4096*p
				spot, ok := m.Where(at)
				if why != api.OK || !ok || spot.Kind != first.Kind || at >= i.Base && at < end || spot.Kind == api.InDevice && spot.Index != first.Index {
					t.Fatalf("W6: a leaf %+v, %v", leaf, why)
				}
			}
		}
	}
	for _, s := range i.Subjects {
		root(s.Root)
	}
	for _, d := range i.Devices {
		if d.Root >= 0 {
			root(d.Root)
		}
	}
}

// hold holds one image at random against the chapter's words, and tells what
// Check must say of it.
func (m *maker) hold(t *testing.T, load bool) string {
	t.Helper()
	i := m.made()
	for range pick(m.Rand, 0, 1, 1, 2, 4) {
		m.spoil(&i)
	}
	raw, why := bundle.Encode(i)
	if why != api.OK {
		return "not laid down"
	}
	want := verdict(m.bus, raw)
	got, err := Check(m.bus, raw)
	r, _ := err.(*Refusal)
	if (err != nil) != (want.Why != api.OK) || r != nil && *r != want {
		t.Fatalf("P15.1: %v, want %+v", err, want)
	}
	if want.Why != api.OK {
		i = api.Image{}
	}
	if !sameImage(got, i) {
		t.Fatalf("P15.3: %v: another image", err)
	}
	if load {
		m.load(t, raw, want)
	}
	return fmt.Sprint(want.Section, " ", int(want.Why))
}

// TestImagesAtRandom: P15.1, P15.2, P15.4, W6: images that may run, and spoilt
// ones.
func TestImagesAtRandom(t *testing.T) {
	t.Parallel()
	var counts [6]map[string]int
	t.Run("seeds", func(t *testing.T) {
		for seed := range counts {
			t.Run(fmt.Sprint(seed), func(t *testing.T) {
				t.Parallel()
				m := &maker{Rand: rand.New(rand.NewSource(int64(seed)))}
				counts[seed] = map[string]int{}
				for round := range 600 {
					counts[seed][m.hold(t, round%10 == 0)]++
				}
			})
		}
	})
	count := map[string]int{}
	for _, c := range counts {
		for what, n := range c {
			count[what] += n
		}
	}
	for _, what := range []string{
		"1 30", "0 150", "2 100", "2 132", "2 160", "2 101", "2 151", "3 151", "4 33", "4 32", "4 109", "4 35", "4 105",
		"5 160", "5 102", "5 132", "5 101", "6 166", "6 160", "6 101", "7 92", "7 90", "7 160", "7 161", "7 106", "7 107", "8 151", "8 152", "8 153",
	} {
		if count[what] < 3 {
			t.Errorf("the images are too tame: %s %d times", what, count[what])
		}
	}
	if count["0 0"] < 900 || count["not laid down"] > 600 {
		t.Errorf("the images are too wild: %v", count)
	}
}

// load holds Load of bytes of which Check has said this.
func (m *maker) load(t *testing.T, raw []byte, want Refusal) {
	t.Helper()
	x := machine(t, m.bus)
	i, err := Load(x, raw)
	if (err == nil) != (want.Why == api.OK) {
		t.Fatalf("P15.4: %v, want %+v", err, want)
	}
	if err != nil {
		if x.Kept() != 0 || meter(x) != [3]int{} {
			t.Fatalf("P15.4: %v, and the machine is changed", err)
		}
		return
	}
	holdAccepted(t, x, i, len(raw)/4096)
	if got, _ := x.Read(i.Base, len(raw)); string(got) != string(raw) {
		t.Fatal("P15.4: not the image's bytes")
	}
	for _, g := range i.Regions {
		for at := g.At; at < g.At+g.Size; at += 4096 {
			page, ok := First(i, at)
			if got, _ := x.Read(at, 4096); !ok || string(got) != string(page) {
				t.Fatalf("P15.4, P15.5: the page at %#x", at)
			}
		}
	}
}

// TestBytesAtRandom: P15.7: whatever bytes there are, Check takes none that
// Decode doesn't, and tells its refusal.
func TestBytesAtRandom(t *testing.T) {
	t.Parallel()
	r := rand.New(rand.NewSource(7))
	raw := laid(t, small())
	for range 3000 {
		b := slices.Clone(raw)
		switch r.Intn(3) {
		case 0:
			b = make([]byte, r.Intn(9000))
			r.Read(b)
		case 1:
			b = b[:r.Intn(len(b))]
		}
		for range r.Intn(3) {
			if len(b) > 0 {
				b[r.Intn(min(len(b), 600))] ^= byte(1 << r.Intn(8))
			}
		}
		holdCheck(t, "P15.7: bytes at random", smallBus(), b, verdict(smallBus(), b))
	}
}

// other is a text of which some numbers are others, and some words away.
func other(r *rand.Rand, src string) string {
	words := strings.SplitAfter(src, " ")
	for range 1 + r.Intn(6) {
		n := r.Intn(len(words))
		word := strings.TrimLeft(words[n], "0123456789abcdefxKM")
		switch first := words[n][:len(words[n])-len(word)]; {
		case first != "" && first[0] <= '9':
			words[n] = pick(r, "0", "1", "2", "3", "4K", "8K", "64K", "1M", "2M", "8M", "0x200000", "5") + word
		case strings.HasPrefix(words[n], "write"), strings.HasPrefix(words[n], "exec"), strings.HasPrefix(words[n], "masked"):
			words[n] = pick(r, "write", "exec", "") + strings.TrimLeft(words[n], "abcdefghijklmnopqrstuvwxyz")
		}
	}
	return strings.Join(words, "")
}

// TestForgedAtRandom: P15.6: what forge emits of texts at random.
func TestForgedAtRandom(t *testing.T) {
	t.Parallel()
	r := rand.New(rand.NewSource(6))
	shelf := []string{whole, string(forge.Family(2)), string(forge.Family(5)), of("ram 4K size 4M; region b size 2M big; region c size 1M; subject a cpu 1 { map b at 2M write; map c at 0x1000; }")}
	taken := 0
	for range 2500 {
		src := other(r, pick(r, shelf...))
		b, err := forge.Compile([]byte(src))
		if err != nil {
			continue
		}
		taken++
		if _, err := Check(forge.Bus(b.Policy), b.Image); err != nil {
			t.Fatalf("P15.6: %v: %s", err, src)
		}
	}
	if taken < 500 {
		t.Errorf("the texts are too wild: %d are accepted", taken)
	}
}

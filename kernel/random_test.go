package kernel

import (
	"bytes"
	"fmt"
	"math/rand"
	"slices"
	"testing"

	"bulkhead/api"
	"bulkhead/boot"
	"bulkhead/bundle"
	"bulkhead/bus"
	"bulkhead/forge"
)

func pick[T any](r *rand.Rand, list ...T) T { return list[r.Intn(len(list))] }

// maker makes policies, images and scripts at random.
type maker struct{ *rand.Rand }

// built is a policy at random that can be built.
func (m maker) built(t testing.TB) forge.Built {
	t.Helper()
	for range 100 {
		b, _, why := forge.Emit(m.policy())
		if why == api.OK {
			return b
		}
	}
	t.Fatal("no policy can be built")
	return forge.Built{}
}

func (m maker) policy() api.Policy {
	p := api.Policy{Name: "s", Rams: []api.Ram{{At: 1 << 20, Size: 1 << 20}, {At: 1 << 21, Size: 4 << 20}}}
	for i := range m.Intn(4) {
		p.Devices = append(p.Devices, api.Device{Name: fmt.Sprint("d.", i), At: 0xf0000000 + uint64(i)<<13, Size: pick[uint64](m.Rand, 4096, 8192)})
	}
	for i := range 1 + m.Intn(5) {
		p.Regions = append(p.Regions, m.region(i))
	}
	for i := range 1 + m.Intn(5) {
		p.Subjects = append(p.Subjects, api.Subject{Name: fmt.Sprint("s.", i), CPU: uint64(m.Intn(4)), Stopped: m.Intn(6) == 0})
	}
	for i := range p.Subjects {
		s := &p.Subjects[i]
		s.Maps, s.Rules = m.maps(p, 5, true), m.rules(p, s.Name)
	}
	for i := range p.Devices {
		if m.Intn(2) == 0 {
			p.Devices[i].Maps = m.maps(p, 3, false)
		}
	}
	m.links(&p)
	m.plans(&p)
	return p
}

func (m maker) region(n int) api.Region {
	r := api.Region{Name: fmt.Sprint("r.", n), Size: 4096 * uint64(1+m.Intn(3)), Wx: m.Intn(2) == 0}
	if m.Intn(8) == 0 {
		r.Big, r.Size = true, 1<<21
	}
	switch m.Intn(3) {
	case 0:
		r.Texted, r.Text = true, string(bytes.Repeat([]byte("some bytes"), m.Intn(int(min(r.Size, 8192))/10)))
	case 1:
		if !r.Big {
			r.Fill = uint64(m.Intn(256))
		}
	}
	return r
}

// maps lie one behind the other, and often touch.
func (m maker) maps(p api.Policy, most int, windows bool) []api.Map {
	var out []api.Map
	at := pick[uint64](m.Rand, 0, 4096, 1<<21-8192, 1<<30-8192)
	for range m.Intn(most + 1) {
		x, size, big := api.Map{Write: m.Intn(2) == 0}, uint64(0), false
		if windows && len(p.Devices) > 0 && m.Intn(3) == 0 {
			d := pick(m.Rand, p.Devices...)
			x.Of, size = d.Name, d.Size
			x.Exec = !x.Write && m.Intn(3) == 0
		} else {
			r := pick(m.Rand, p.Regions...)
			x.Of, size, big = r.Name, r.Size, r.Big
			x.Exec = windows && (!x.Write || r.Wx) && m.Intn(2) == 0
		}
		if big {
			at = (at + 1<<21 - 1) &^ (1<<21 - 1)
		}
		x.At = at
		out = append(out, x)
		at += size + pick[uint64](m.Rand, 0, 0, 4096, 1<<21)
	}
	if k := len(out) - 1; k >= 0 && m.Intn(6) == 0 {
		i := slices.IndexFunc(p.Regions, func(r api.Region) bool { return r.Name == out[k].Of })
		if i >= 0 {
			out[k].At = 1<<39 - p.Regions[i].Size
		}
	}
	return out
}

func (m maker) rules(p api.Policy, own string) []api.Rule {
	switch how := m.Intn(4); how {
	case api.ByVector:
		if to := pick(m.Rand, p.Subjects...).Name; to != own {
			return []api.Rule{{How: how, To: to, Vector: m.vector()}}
		}
	case api.ByReset, api.ByStop:
		return []api.Rule{{How: how}}
	}
	return nil
}

// vector is one of a few, so that they meet.
func (m maker) vector() uint64 { return pick[uint64](m.Rand, 0, 1, 2, 62, 63) }

func (m maker) links(p *api.Policy) {
	for i := range m.Intn(7) {
		c := api.Channel{Name: fmt.Sprint("c.", i), From: pick(m.Rand, p.Subjects...).Name, To: pick(m.Rand, p.Subjects...).Name, How: 1 + m.Intn(4)}
		if c.How == api.ByVector {
			c.Vector = m.vector()
		}
		if c.From != c.To {
			p.Channels = append(p.Channels, c)
		}
	}
	for i := range m.Intn(4) * min(len(p.Devices), 1) {
		p.Irqs = append(p.Irqs, api.IrqLine{Name: fmt.Sprint("i.", i), From: pick(m.Rand, p.Devices...).Name, To: pick(m.Rand, p.Subjects...).Name, Vector: m.vector(), Masked: m.Intn(2) == 0})
	}
}

func (m maker) plans(p *api.Policy) {
	for i := range 1 + m.Intn(3) {
		n := api.Plan{Name: fmt.Sprint("p.", i), Major: pick[uint64](m.Rand, 1, 6, 12, 60, 65536)}
		for _, cpu := range m.Perm(4)[:2+m.Intn(3)] {
			n.Lanes = append(n.Lanes, m.lane(p, n.Major, uint64(cpu)))
		}
		p.Plans = append(p.Plans, n)
	}
	p.Starts = []api.Pick{{Name: pick(m.Rand, p.Plans...).Name}}
	if len(p.Plans) > 1 || m.Intn(2) == 0 {
		p.Masters = []api.Pick{{Name: pick(m.Rand, p.Subjects...).Name}}
	}
}

func (m maker) lane(p *api.Policy, major, cpu uint64) api.Lane {
	l := api.Lane{CPU: cpu, Needs: m.Intn(3) == 0}
	left := major
	for _, s := range p.Subjects {
		if s.CPU != cpu || left == 0 {
			continue
		}
		r := api.Run{Subject: s.Name, Budget: min(left, 1+uint64(m.Intn(int(major))))}
		if l.Needs {
			r.Period = major
			if major%2 == 0 && r.Budget > 1 && m.Intn(2) == 0 {
				r.Budget, r.Period = r.Budget/2, major/2
			}
		}
		l.Runs = append(l.Runs, r)
		if left -= r.Budget; l.Needs && r.Period < major {
			left = left - min(left, r.Budget)
		}
		if !l.Needs && left > 0 && m.Intn(3) == 0 {
			l.Runs = append(l.Runs, api.Run{Budget: 1})
			left--
		}
	}
	return l
}

// step is a step at random in a world, most of which are not refused.
func (m maker) step(w *world) api.Step {
	s := api.Step{Kind: pick(m.Rand, api.Tick, api.Write, api.Dma, api.Irq, api.Access, api.Access, api.Access, api.Signal, api.Signal, api.Poll, api.Wait, api.Arm, api.Status, api.Switch, api.Unmask)}
	s.Subject = m.Intn(len(w.beings)+2) - 1
	if who := w.current(m.Intn(4)); who >= 0 && m.Intn(5) > 0 {
		s.Subject = who
	}
	s.Access, s.Width, s.Value = 1+m.Intn(3), pick(m.Rand, 1, 2, 4, 8), m.Uint64()
	s.At = m.Uint64() >> m.Intn(64)
	switch s.Kind {
	case api.Tick:
		s.Value = m.ticks(w)
	case api.Write:
		s.Number, s.At = m.Intn(len(w.gears)+2)-1, pick[uint64](m.Rand, 0, 1, 4090, 4093, 4096, 8184, 8188, 8191, 1<<64-4)
	case api.Dma:
		if s.Number = m.Intn(len(w.gears)+2) - 1; s.Number >= 0 && s.Number < len(w.gears) {
			s.At = m.address(w.gears[s.Number].views)
		}
	case api.Irq, api.Unmask:
		s.Number = m.Intn(len(w.irqs)+2) - 1
	case api.Access:
		if s.Subject >= 0 && s.Subject < len(w.beings) {
			s.At = m.address(w.beings[s.Subject].views)
		}
	case api.Signal:
		s.Number = m.channel(w, s.Subject)
	case api.Poll:
		s.Value = m.bit()
	case api.Arm:
		s.At, s.Value = pick[uint64](m.Rand, 0, 1, 2, 5, 1<<64-1, uint64(m.Intn(100))), m.bit()
	case api.Switch:
		s.Number = m.Intn(len(w.majors)+2) - 1
		if m.Intn(2) == 0 {
			s.Subject = w.master
		}
	}
	return m.odd(s)
}

func (m maker) bit() uint64 { return pick(m.Rand, m.vector(), m.vector(), 64, 1<<63) }

// ticks are a few, or up to a wrap, or over many.
func (m maker) ticks(w *world) uint64 {
	left := uint64(w.majors[w.active] - w.offset)
	if left > 1000 && m.Intn(4) > 0 {
		return uint64(m.Intn(100))
	}
	return pick(m.Rand, 0, 1, 1, 1, 2, 3, left-1, left, left+1, uint64(m.Intn(200)), m.Uint64(), 1<<64-1)
}

// channel is most often one's own.
func (m maker) channel(w *world, who int) int {
	for range 4 {
		n := m.Intn(len(w.channels)+2) - 1
		if n >= 0 && n < len(w.channels) && w.channels[n].From == who {
			return n
		}
	}
	return m.Intn(len(w.channels)+2) - 1
}

// address is one near the ends of what is mapped.
func (m maker) address(views map[uint64]view) uint64 {
	if len(views) == 0 || m.Intn(20) == 0 {
		return pick[uint64](m.Rand, 0, 1<<39-1, 1<<39-4, 1<<39, 1<<64-1, 1<<64-8, m.Uint64())
	}
	var list []uint64
	for page := range views {
		list = append(list, page)
	}
	slices.Sort(list)
	return 4096*pick(m.Rand, list...) + pick[uint64](m.Rand, 0, 0, 1, 8, 100, 4088, 4089, 4092, 4095, 1<<64-1, 1<<64-4)
}

// odd spoils a few steps.
func (m maker) odd(s api.Step) api.Step {
	number := pick(m.Rand, -1, 0, 3, 5, 7, 9, 64, 1<<40, -1<<63, 1<<63-1)
	switch m.Intn(60) {
	case 0:
		s.Kind = pick(m.Rand, number, 13, 14, -12)
	case 1:
		s.Width = number
	case 2:
		s.Access = pick(m.Rand, number, 4)
	case 3:
		s.Subject = number
	case 4:
		s.Number = number
	}
	return s
}

// holdWorld holds a kernel against a world, step by step, over a script made
// for it on the way; it tells how often each refusal came.
func (m maker) holdWorld(t *testing.T, what string, k *Kernel, w *world, steps int, count map[[2]int]int) {
	t.Helper()
	for n := range steps {
		s := m.step(w)
		got, want := k.Step(s), w.step(s)
		if got != want {
			t.Fatalf("%s: step %d, %+v: %+v, want %+v", what, n, s, got, want)
		}
		if k.Plan() != w.active || k.Offset() != w.offset || k.Clock() != w.clock {
			t.Fatalf("%s: behind step %d, %+v: plan %d, offset %d, clock %d, want %d, %d, %d", what, n, s, k.Plan(), k.Offset(), k.Clock(), w.active, w.offset, w.clock)
		}
		for cpu := -1; cpu < 5; cpu++ {
			if k.Current(cpu) != w.current(cpu) {
				t.Fatalf("%s: behind step %d: on cpu %d %d, want %d", what, n, cpu, k.Current(cpu), w.current(cpu))
			}
		}
		count[[2]int{s.Kind, int(want.Why)}]++
	}
}

// holdMemory holds each byte of a machine against a world, at the place that is
// told of each of its pages, and against what the machine held at boot.
func holdMemory(t *testing.T, what string, m, atBoot *bus.Machine, w *world, place func(sheet) uint64) {
	t.Helper()
	want := atBoot.Clone()
	for s, b := range w.held {
		want.Write(place(s), b[:])
	}
	if !same(m, want) {
		t.Fatalf("%s: other bytes", what)
	}
}

// holdImage holds P16.6: the image's bytes are there, and nothing strayed.
func holdImage(t *testing.T, what string, m *bus.Machine, base uint64, raw []byte, strays int) {
	t.Helper()
	if got, _ := m.Read(base, len(raw)); !bytes.Equal(got, raw) {
		t.Fatalf("P16.6: %s: the image was changed", what)
	}
	if m.Strays() != strays {
		t.Fatalf("P16.6: %s: %d accesses off the bus", what, m.Strays()-strays)
	}
}

// wantedAnswers are what each kind of step is to have answered often.
func wantedAnswers() map[int][]api.Errno {
	own := []api.Errno{api.OK, api.ErrSubject, api.ErrTurn, api.ErrStopped, api.ErrAsleep}
	with := func(more ...api.Errno) []api.Errno { return append(slices.Clone(own), more...) }
	return map[int][]api.Errno{
		api.Tick: {api.OK}, api.Write: {api.OK, api.ErrDevice, api.ErrWidth, api.ErrBound},
		api.Dma: {api.OK, api.ErrDevice, api.ErrArg, api.ErrWidth, api.ErrHole, api.ErrAbsent, api.ErrWrite, api.ErrExec},
		api.Irq: {api.OK, api.ErrIrq}, api.Access: with(api.ErrArg, api.ErrWidth, api.ErrHole, api.ErrAbsent, api.ErrWrite, api.ErrExec),
		api.Signal: with(api.ErrChannel), api.Poll: with(api.ErrVector), api.Wait: own, api.Arm: with(api.ErrVector),
		api.Status: own, api.Switch: with(api.ErrMaster, api.ErrPlan), api.Unmask: with(api.ErrIrq), 13: {api.ErrArg}, 0: {api.ErrArg}, -1: {api.ErrArg},
	}
}

// holdTame holds that each answer was met.
func holdTame(t *testing.T, count map[[2]int]int, most int) {
	t.Helper()
	for kind, list := range wantedAnswers() {
		for _, why := range list {
			if n := count[[2]int{kind, int(why)}]; n < most {
				t.Errorf("the scripts are too tame: kind %d answers %v %d times", kind, why, n)
			}
		}
	}
}

// TestPoliciesAtRandom: P16.2, P16.4, P16.5, P16.6, W1, W4: the kernel over an
// image is what its policy means.
func TestPoliciesAtRandom(t *testing.T) {
	t.Parallel()
	m := maker{rand.New(rand.NewSource(16))}
	count := map[[2]int]int{}
	for n := range 300 {
		b := m.built(t)
		what := fmt.Sprint("W1: policy ", n)
		k, mem := booted(t, b)
		w, atBoot := meaning(b.Policy), mem.Clone()
		m.holdWorld(t, what, k, w, 250, count)
		holdImage(t, what, mem, b.Layout.Image, b.Image, 0)
		if n%4 == 0 {
			holdMemory(t, what, mem, atBoot, w, func(s sheet) uint64 { return lies(b, s) })
		}
	}
	holdTame(t, count, 5)
}

// TestImagesAtRandom: P16.2, P16.6, W6: images that no policy means, but that
// the loader takes, on machines that were used.
func TestImagesAtRandom(t *testing.T) {
	t.Parallel()
	m := maker{rand.New(rand.NewSource(17))}
	count := map[[2]int]int{}
	for n := range 100 {
		what := fmt.Sprint("W6: image ", n)
		raw, b := m.image(t)
		i := read(t, raw)
		mem := machine(t, b)
		for range 200 {
			r := pick(m.Rand, append(slices.Clone(b.Rams), b.Devices...)...)
			mem.Store(r.At+8*uint64(m.Intn(int(r.Size/8))), 8, m.Uint64())
		}
		mem.Load(1<<40, 1)
		w := said(i, len(raw)/4096, mem.Clone())
		k, err := Boot(mem, raw)
		if err != nil {
			t.Fatal(err)
		}
		atBoot := mem.Clone()
		m.holdWorld(t, what, k, w, 500, count)
		holdImage(t, what, mem, i.Base, raw, 1)
		if n%4 == 0 {
			holdMemory(t, what, mem, atBoot, w, func(s sheet) uint64 { return 4096 * s.number })
		}
	}
	holdTame(t, count, 5)
}

// image is the bytes of an image that the loader takes, and their bus: the one
// of a policy, with leaves, regions and rules turned.
func (m maker) image(t testing.TB) ([]byte, api.Bus) {
	t.Helper()
	b := m.built(t)
	raw, i := b.Image, read(t, b.Image)
	for range 20 {
		m.turn(&i)
		out, _ := bundle.Encode(i)
		if _, err := boot.Check(i.Bus, out); err == nil {
			raw = out
		} else {
			i = read(t, raw)
		}
	}
	return raw, i.Bus
}

// turn changes one thing of an image.
func (m maker) turn(i *api.Image) {
	switch m.Intn(8) {
	case 0:
		if k := len(i.Regions); k > 0 {
			g := &i.Regions[m.Intn(k)]
			g.At, g.Size, g.Fill, g.Text = m.frame(i), 4096*uint64(1+m.Intn(3)), uint8(m.Intn(3)), ""
		}
	case 1:
		if k := len(i.Subjects); k > 0 {
			s := &i.Subjects[m.Intn(k)]
			s.Rule, s.To, s.Vector = pick(m.Rand, 0, api.ByReset, api.ByStop), -1, 0
		}
	case 2:
		if k := len(i.Irqs); k > 0 {
			q := &i.Irqs[m.Intn(k)]
			q.From, q.To, q.Masked = m.Intn(len(i.Devices)), m.Intn(len(i.Subjects)), m.Intn(2) == 0
		}
	default:
		m.turnTable(i)
	}
}

// turnTable puts a leaf into a table, of one page or of a big one.
func (m maker) turnTable(i *api.Image) {
	if len(i.Tables) == 0 {
		return
	}
	t := &i.Tables[m.Intn(len(i.Tables))]
	e := m.frame(i) | 1 | uint64(m.Intn(4))<<1
	if m.Intn(4) == 0 {
		e = e&^(1<<21-1) | 8 | e&7
	}
	at := m.Intn(12)
	for n, x := range t {
		if x != 0 && m.Intn(2) == 0 {
			at = n + m.Intn(2)
		}
	}
	t[at%512] = e
}

// frame is a page of the bus, often one of a region.
func (m maker) frame(i *api.Image) uint64 {
	if len(i.Regions) > 0 && m.Intn(2) == 0 {
		g := pick(m.Rand, i.Regions...)
		return g.At + 4096*uint64(m.Intn(int(g.Size/4096)+1))
	}
	r := pick(m.Rand, append(slices.Clone(i.Bus.Rams), i.Bus.Devices...)...)
	return r.At + 4096*uint64(m.Intn(int(r.Size/4096)))
}

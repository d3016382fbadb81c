package audit

import (
	"bytes"
	"fmt"
	"math/rand"
	"slices"
	"testing"

	"bulkhead/api"
	"bulkhead/boot"
	"bulkhead/bundle"
	"bulkhead/bus"
	"bulkhead/flow"
	"bulkhead/forge"
	"bulkhead/kernel"
)

func pick[T any](r *rand.Rand, list ...T) T { return list[r.Intn(len(list))] }

// maker makes policies, images and scripts at random.
type maker struct{ *rand.Rand }

// built is what comes of a policy at random.
func (m maker) built(t testing.TB) forge.Built {
	t.Helper()
	for range 100 {
		if b, _, why := forge.Emit(m.policy()); why == api.OK {
			return b
		}
	}
	t.Fatal("no policy can be built")
	return forge.Built{}
}

// policy is one with few ties among many actors; its RAM and its windows touch.
func (m maker) policy() api.Policy {
	p := api.Policy{Name: "x", Rams: []api.Ram{{Size: 6 << 20}, {At: 6 << 20, Size: 2 << 20}}}
	for n := range m.Intn(4) {
		p.Devices = append(p.Devices, api.Device{Name: fmt.Sprint("d.", n), At: 8<<20 + uint64(n)<<13, Size: 4096 << m.Intn(2)})
	}
	for n := range 1 + m.Intn(5) {
		r := api.Region{Name: fmt.Sprint("r.", n), Size: 4096 << m.Intn(2), Wx: m.Intn(2) == 0}
		switch m.Intn(6) {
		case 0:
			r.Texted, r.Text = true, pick(m.Rand, "", "\xff", "text", "\x00")
		case 1:
			r.Big, r.Size = true, 1<<21
		default:
			r.Fill = pick[uint64](m.Rand, 0, 0, 1, 255)
		}
		p.Regions = append(p.Regions, r)
	}
	for n := range 1 + m.Intn(5) {
		p.Subjects = append(p.Subjects, api.Subject{Name: fmt.Sprint("s.", n), CPU: uint64(m.Intn(4)), Stopped: m.Intn(6) == 0})
	}
	for n := range p.Devices {
		p.Devices[n].Maps = m.maps(p, false)
	}
	m.ties(&p)
	m.plans(&p)
	return p
}

// maps are a few, of regions and, of a subject, windows; some go on where one
// ends.
func (m maker) maps(p api.Policy, windows bool) []api.Map {
	var out []api.Map
	at := pick[uint64](m.Rand, 0, 0, 1<<21-4096, 1<<30-4096)
	for range m.Intn(4) {
		x, size := api.Map{Write: m.Intn(3) == 0}, uint64(0)
		if windows && len(p.Devices) > 0 && m.Intn(4) == 0 {
			d := pick(m.Rand, p.Devices...)
			x.Of, size = d.Name, d.Size
		} else {
			r := pick(m.Rand, p.Regions...)
			if r.Big {
				at = (at + 1<<21 - 1) &^ (1<<21 - 1)
			}
			x.Of, size = r.Name, r.Size
			x.Exec = windows && (r.Wx || !x.Write) && m.Intn(3) == 0
		}
		x.At = at
		out = append(out, x)
		at += size + pick[uint64](m.Rand, 0, 0, 4096, 1<<21)
	}
	return out
}

func (m maker) ties(p *api.Policy) {
	for n := range p.Subjects {
		x := &p.Subjects[n]
		x.Maps = m.maps(*p, true)
		switch to := m.Intn(len(p.Subjects)); m.Intn(6) {
		case 0:
			if to != n {
				x.Rules = []api.Rule{{How: api.ByVector, To: p.Subjects[to].Name, Vector: uint64(m.Intn(3))}}
			}
		case 1:
			x.Rules = []api.Rule{{How: api.ByStop}}
		case 2:
			x.Rules = []api.Rule{{How: api.ByReset}}
		}
	}
	for n := range m.Intn(4) {
		from, to := m.Intn(len(p.Subjects)), m.Intn(len(p.Subjects))
		c := api.Channel{Name: fmt.Sprint("c.", n), From: p.Subjects[from].Name, To: p.Subjects[to].Name, How: 1 + m.Intn(4)}
		if c.How == api.ByVector {
			c.Vector = uint64(m.Intn(3))
		}
		if from != to {
			p.Channels = append(p.Channels, c)
		}
	}
	for n := range m.Intn(3) * min(len(p.Devices), 1) {
		p.Irqs = append(p.Irqs, api.IrqLine{Name: fmt.Sprint("i.", n), From: pick(m.Rand, p.Devices...).Name, To: pick(m.Rand, p.Subjects...).Name, Vector: uint64(m.Intn(3)), Masked: m.Intn(2) == 0})
	}
}

func (m maker) plans(p *api.Policy) {
	for n := range pick(m.Rand, 1, 1, 2, 3) {
		plan := api.Plan{Name: fmt.Sprint("p.", n), Major: pick[uint64](m.Rand, 8, 64)}
		for cpu := range uint64(4) {
			l := api.Lane{CPU: cpu}
			for _, k := range m.Perm(len(p.Subjects)) {
				if p.Subjects[k].CPU == cpu && m.Intn(8) > 0 {
					l.Runs = append(l.Runs, api.Run{Subject: p.Subjects[k].Name, Budget: plan.Major / 8})
				}
			}
			if m.Intn(3) == 0 {
				l.Runs = append([]api.Run{{Budget: 1}}, l.Runs...)
			}
			if m.Intn(8) > 0 {
				plan.Lanes = append(plan.Lanes, l)
			}
		}
		p.Plans = append(p.Plans, plan)
	}
	p.Starts = []api.Pick{{Name: pick(m.Rand, p.Plans...).Name}}
	if len(p.Plans) > 1 || m.Intn(2) == 0 {
		p.Masters = []api.Pick{{Name: pick(m.Rand, p.Subjects...).Name}}
	}
}

// image is the bytes of an image that the loader takes, but that no policy
// means: one that was built, with leaves and more turned.
func (m maker) image(t testing.TB) []byte {
	t.Helper()
	raw := m.built(t).Image
	i := read(t, raw)
	for range m.Intn(16) {
		m.turn(&i)
		out, _ := bundle.Encode(i)
		if _, err := boot.Check(i.Bus, out); err == nil {
			raw = out
		}
		i = read(t, raw)
	}
	return raw
}

// turn changes one thing of an image.
func (m maker) turn(i *api.Image) {
	switch m.Intn(12) {
	case 0:
		g := &i.Regions[m.Intn(len(i.Regions))]
		g.At, g.Size, g.Fill, g.Text = m.frame(i), 4096*uint64(1+m.Intn(3)), uint8(m.Intn(3)), ""
	case 1:
		s := &i.Subjects[m.Intn(len(i.Subjects))]
		s.Rule, s.To, s.Vector = pick(m.Rand, 0, api.ByReset, api.ByStop), -1, 0
	case 2:
		if k := len(i.Devices); k > 0 {
			i.Irqs = append(i.Irqs, api.Link{From: m.Intn(k), To: m.Intn(len(i.Subjects)), Effect: api.ByVector, Masked: m.Intn(2) == 0})
		}
	case 3:
		i.Master = m.Intn(len(i.Subjects)+1) - 1
	case 4:
		i.Regions = i.Regions[:1]
	default:
		t := &i.Tables[m.Intn(len(i.Tables))]
		e := m.frame(i) | 1 | uint64(m.Intn(4))<<1
		if m.Intn(4) == 0 {
			e = e&^(1<<21-1) | 8 | e&7
		}
		at := m.Intn(12)
		for n, x := range t {
			if x != 0 && m.Intn(2) == 0 {
				at = n + m.Intn(2)
			}
		}
		t[at%512] = e
	}
}

// frame is a page of the bus, often one of a few.
func (m maker) frame(i *api.Image) uint64 {
	if m.Intn(2) == 0 {
		return pick[uint64](m.Rand, 0x700000, 0x7ff000, 0x3ff000)
	}
	r := pick(m.Rand, append(slices.Clone(i.Bus.Rams), i.Bus.Devices...)...)
	return r.At + 4096*uint64(m.Intn(int(r.Size/4096)))
}

// TestImagesAtRandom: P18.1, P18.2: of images that no policy means, against the
// words.
func TestImagesAtRandom(t *testing.T) {
	t.Parallel()
	m := maker{rand.New(rand.NewSource(18))}
	met := map[string]int{}
	for n := range 250 {
		raw := m.image(t)
		i := read(t, raw)
		f, want := facts(t, raw), drawn(i, len(raw)/4096, met)
		if !sameFacts(f, want) {
			t.Fatalf("P18.1: image %d: %+v, want %+v", n, f, want)
		}
		for actor := range f.Subjects + f.Devices {
			root := append(rootsOf(i.Subjects), portsOf(i.Devices)...)[actor]
			rows := joined(mapped(i, len(raw)/4096, root))
			if got := reach(t, raw, actor); !slices.Equal(got, rows) {
				t.Fatalf("P18.2: image %d: %d: %+v, want %+v", n, actor, got, rows)
			}
		}
		_, err := Reach(raw, f.Subjects+f.Devices)
		holdError(t, "P18.2: no actor", err, boot.Refusal{Why: api.ErrActor})
	}
	for _, kind := range []string{"page", "window of a third", "to window", "window", "irq", "channel", "rule", "master"} {
		if met[kind] < 20 {
			t.Errorf("the images are too tame: %d edges by %s", met[kind], kind)
		}
	}
}

func rootsOf(list []api.Tenant) []int {
	var out []int
	for _, s := range list {
		out = append(out, s.Root)
	}
	return out
}

func portsOf(list []api.Port) []int {
	var out []int
	for _, d := range list {
		out = append(out, d.Root)
	}
	return out
}

// TestPoliciesAtRandom: P18.5, P18.3, P18.6: an image tells what its policy does,
// and its list is enough to make it again.
func TestPoliciesAtRandom(t *testing.T) {
	t.Parallel()
	m := maker{rand.New(rand.NewSource(19))}
	for n := range 250 {
		b := m.built(t)
		want, why := flow.Facts(b.Policy)
		if f := facts(t, b.Image); why != api.OK || !sameFacts(f, want) {
			t.Fatalf("P18.5: policy %d: %+v, want %+v", n, f, want)
		}
		holdRebuilt(t, fmt.Sprint("policy ", n), b)
	}
	for n := 1; n <= 64; n++ {
		b := family(t, n)
		want, _ := flow.Facts(b.Policy)
		if f := facts(t, b.Image); !sameFacts(f, want) {
			t.Errorf("P18.5: the family of %d: %+v", n, f)
		}
		holdRebuilt(t, fmt.Sprint("the family of ", n), b)
	}
}

// nudged is a policy with one thing changed, or with none that an image tells.
func (m maker) nudged(p api.Policy) api.Policy {
	p.Devices, p.Regions, p.Subjects = slices.Clone(p.Devices), slices.Clone(p.Regions), slices.Clone(p.Subjects)
	p.Channels, p.Irqs, p.Plans = slices.Clone(p.Channels), slices.Clone(p.Irqs), slices.Clone(p.Plans)
	s, r := &p.Subjects[m.Intn(len(p.Subjects))], &p.Regions[m.Intn(len(p.Regions))]
	switch m.Intn(12) {
	case 0:
		s.Stopped = !s.Stopped
	case 1:
		s.Maps = slices.Clone(s.Maps)
		m.Shuffle(len(s.Maps), func(a, b int) { s.Maps[a], s.Maps[b] = s.Maps[b], s.Maps[a] })
	case 2:
		s.Maps = m.maps(p, true)
	case 3:
		s.Rules = pick(m.Rand, nil, []api.Rule{{How: api.ByReset}}, []api.Rule{{How: api.ByStop}})
	case 4:
		if r.Texted {
			r.Text += "x"
		} else if !r.Big {
			r.Fill = uint64(m.Intn(2))
		}
	case 5:
		r.Wx = true
	case 6:
		for n := range p.Channels {
			p.Channels[n].How, p.Channels[n].Vector = 1+m.Intn(4), 0
		}
	case 7:
		for n := range p.Irqs {
			p.Irqs[n].Masked = !p.Irqs[n].Masked
		}
	case 8:
		p.Starts = []api.Pick{{Name: pick(m.Rand, p.Plans...).Name}}
	case 9:
		p.Masters = []api.Pick{{Name: pick(m.Rand, p.Subjects...).Name}}
	case 10:
		if len(p.Devices) > 0 {
			p.Devices[0].Maps = m.maps(p, false)
		}
	case 11:
		p.Plans[0].Major *= 2
	}
	return p
}

// TestTwinsAtRandom: P18.6: two images of one list and of the same texts are the
// same bytes, and no two lists are of one image.
func TestTwinsAtRandom(t *testing.T) {
	t.Parallel()
	m := maker{rand.New(rand.NewSource(20))}
	same, unlike := 0, 0
	for n := range 400 {
		one := m.built(t)
		two, _, why := forge.Emit(m.nudged(one.Policy))
		if why != api.OK {
			continue
		}
		alike := list(t, one.Image) == list(t, two.Image)
		a, b := read(t, one.Image).Regions, read(t, two.Image).Regions
		for k := range a {
			alike = alike && a[k].Text == b[k].Text
		}
		if alike != bytes.Equal(one.Image, two.Image) {
			t.Fatalf("P18.6: pair %d: lists and texts are alike: %v", n, alike)
		}
		if alike {
			same++
		} else {
			unlike++
		}
	}
	if same < 50 || unlike < 100 {
		t.Errorf("the pairs are too tame: %d and %d", same, unlike)
	}
}

// step is one at random of an actor, most of which do something; of -1: of
// nobody.
func (m maker) step(i api.Image, rows [][]api.Leaf, actor int) api.Step {
	subjects := len(i.Subjects)
	s := api.Step{Kind: api.Access + m.Intn(8), Subject: actor, Width: pick(m.Rand, 1, 1, 2, 8), Value: uint64(m.Intn(4)), Access: 1 + m.Intn(2)}
	switch {
	case actor < 0:
		if m.Intn(8) == 0 {
			return pick(m.Rand, api.Step{Kind: 99}, api.Step{Kind: api.Wait, Subject: 99}, api.Step{Kind: api.Irq, Number: -1})
		}
		return api.Step{Kind: api.Tick, Value: pick[uint64](m.Rand, 0, 1, 1, 2, 6, 8, 64)}
	case actor >= subjects:
		s.Kind, s.Number = pick(m.Rand, api.Write, api.Dma, api.Dma), actor-subjects
		irqs := slices.DeleteFunc(m.Perm(len(i.Irqs)), func(n int) bool { return i.Irqs[n].From != s.Number })
		if len(irqs) > 0 && m.Intn(3) == 0 {
			s.Kind, s.Number = api.Irq, irqs[0]
		}
	case m.Intn(2) == 0:
		s.Kind = pick(m.Rand, api.Access, api.Access, api.Signal)
	}
	switch s.Kind {
	case api.Signal:
		s.Number = m.Intn(len(i.Channels) + 1)
	case api.Switch:
		s.Number = m.Intn(len(i.Plans) + 1)
	case api.Unmask:
		s.Number = m.Intn(len(i.Irqs) + 1)
	case api.Arm:
		s.At = uint64(m.Intn(20))
	case api.Access, api.Dma:
		if len(rows[actor]) > 0 && m.Intn(8) > 0 {
			r := pick(m.Rand, rows[actor]...)
			s.At = r.Virt + 4096*uint64(pick(m.Rand, 0, r.Pages-1, m.Intn(r.Pages)))
		}
	}
	return s
}

// booted is a kernel of an image, on a new machine.
func booted(t testing.TB, raw []byte) *kernel.Kernel {
	t.Helper()
	mem, why := bus.New(read(t, raw).Bus)
	if why != api.OK {
		t.Fatal(why)
	}
	k, err := kernel.Boot(mem, raw)
	if err != nil {
		t.Fatal(err)
	}
	return k
}

// answers are what a subject's steps answer, on a new machine.
func answers(t testing.TB, raw []byte, f api.Facts, script []api.Step, who int) []api.Result {
	t.Helper()
	var out []api.Result
	for n, r := range booted(t, raw).Run(script) {
		if flow.Of(f, script[n]) == who {
			out = append(out, r)
		}
	}
	return out
}

// hearer is a subject, most often one that has its turn and is not stopped.
func (m maker) hearer(i api.Image) int {
	v := 0
	for range 8 {
		v = m.Intn(len(i.Subjects))
		s := i.Subjects[v]
		if !s.Stopped && slices.ContainsFunc(i.Plans[i.Start].Lanes[s.CPU], func(x api.Stint) bool { return x.Subject == v }) {
			break
		}
	}
	return v
}

// TestNobodyElse: P18.7, W2, W7: of every image that the loader takes, two
// scripts that are purged to one by the edges that audit tells make a subject
// hear one thing.
func TestNobodyElse(t *testing.T) {
	t.Parallel()
	m := maker{rand.New(rand.NewSource(21))}
	told, purged := 0, 0
	for n := range 300 {
		raw := m.image(t)
		i, f := read(t, raw), facts(t, raw)
		actors := f.Subjects + f.Devices
		rows := make([][]api.Leaf, actors)
		for actor := range rows {
			rows[actor] = reach(t, raw, actor)
		}
		v := m.hearer(i)
		k := booted(t, raw)
		var script []api.Step
		for range 150 {
			who := m.Intn(actors+2) - 2
			if now := k.Current(m.Intn(4)); now >= 0 && m.Intn(2) == 0 {
				who = now
			}
			if k.Current(i.Subjects[v].CPU) == v && m.Intn(2) == 0 {
				who = v
			}
			s := m.step(i, rows, who)
			k.Step(s)
			script = append(script, s)
		}
		left := flow.Purge(f, script, v)
		hears, alone := answers(t, raw, f, script, v), answers(t, raw, f, left, v)
		if !slices.Equal(hears, alone) {
			t.Fatalf("W2: image %d: %d hears somebody else: %v, %v, of %v", n, v, hears, alone, script)
		}
		if len(left) < len(script) {
			purged++
		}
		for _, r := range hears {
			if r.Why == api.OK {
				told++
			}
		}
	}
	if purged < 100 || told < 2000 {
		t.Errorf("the scripts are too tame: %d are purged, %d steps answer", purged, told)
	}
}

// TestKeepsNothing: R2, R4: what is handed in stays as it is, and an answer is
// new memory, the same each time.
func TestKeepsNothing(t *testing.T) {
	t.Parallel()
	room := bytes.Repeat([]byte{7}, 1<<20)
	raw := room[:copy(room, family(t, 8).Image)]
	given := bytes.Clone(room)
	f, rows, text := facts(t, raw), reach(t, raw, 0), list(t, raw)
	for range 20 {
		again := facts(t, raw)
		if !sameFacts(again, f) || !slices.Equal(reach(t, raw, 0), rows) || list(t, raw) != text {
			t.Fatal("R4: another answer")
		}
		again.Edges[0], again.Irqs[0] = api.Edge{From: 9, To: 9}, 9
		reach(t, raw, 0)[0] = api.Leaf{}
		b, _ := List(raw)
		clear(b[:cap(b)])
		gone, come, _ := Compare(raw, family(t, 2).Image)
		for n := range gone {
			gone[n] = api.Edge{}
		}
		_ = append(gone, come...)
	}
	if !bytes.Equal(room, given) {
		t.Error("R2: what was handed in is changed")
	}
}

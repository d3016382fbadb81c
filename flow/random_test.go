package flow

import (
	"fmt"
	"math/rand"
	"reflect"
	"slices"
	"testing"

	"bulkhead/api"
	"bulkhead/check"
	"bulkhead/forge"
)

func pick[T any](r *rand.Rand, list ...T) T { return list[r.Intn(len(list))] }

// maker makes policies, facts and scripts at random.
type maker struct{ *rand.Rand }

// policy is one that can be built, with few ties among many actors.
func (m maker) policy(t testing.TB) api.Policy {
	t.Helper()
	p := api.Policy{Name: "x", Rams: []api.Ram{{Size: 8 << 20}}}
	for n := range 1 + m.Intn(4) {
		p.Devices = append(p.Devices, api.Device{Name: fmt.Sprint("d.", n), At: 0xf0000000 + uint64(n)<<13, Size: 4096 << m.Intn(2)})
	}
	for n := range 1 + m.Intn(5) {
		r := api.Region{Name: fmt.Sprint("r.", n), Size: 4096 << m.Intn(2), Fill: pick[uint64](m.Rand, 0, 1, 255)}
		if m.Intn(3) == 0 {
			r.Texted, r.Text, r.Fill = true, pick(m.Rand, "", "\xff", "text", "\x00"), 0
		}
		p.Regions = append(p.Regions, r)
	}
	for n := range 2 + m.Intn(5) {
		p.Subjects = append(p.Subjects, api.Subject{Name: fmt.Sprint("s.", n), CPU: uint64(m.Intn(4)), Stopped: m.Intn(5) == 0})
	}
	for n := range p.Devices {
		p.Devices[n].Maps = m.maps(p, false)
	}
	m.ties(&p)
	m.plans(&p)
	if at, why := check.Check(p); why != api.OK {
		t.Fatalf("a policy that can't be built: %v at %d: %+v", why, at, p)
	}
	return p
}

// maps are a few, of regions and, of a subject, windows.
func (m maker) maps(p api.Policy, windows bool) []api.Map {
	var out []api.Map
	for n := range m.Intn(3) {
		x := api.Map{Of: pick(m.Rand, p.Regions...).Name, At: uint64(n) << 20, Write: m.Intn(3) == 0}
		if windows && m.Intn(4) == 0 {
			x.Of = pick(m.Rand, p.Devices...).Name
		}
		out = append(out, x)
	}
	return out
}

func (m maker) ties(p *api.Policy) {
	other := func(n int) string {
		return p.Subjects[(n+1+m.Intn(len(p.Subjects)-1))%len(p.Subjects)].Name
	}
	for n := range p.Subjects {
		x := &p.Subjects[n]
		x.Maps = m.maps(*p, true)
		switch m.Intn(6) {
		case 0:
			x.Rules = []api.Rule{{How: api.ByVector, To: other(n), Vector: uint64(m.Intn(64))}}
		case 1:
			x.Rules = []api.Rule{{How: api.ByStop}}
		case 2:
			x.Rules = []api.Rule{{How: api.ByReset}}
		}
	}
	for n := range m.Intn(5) {
		from := m.Intn(len(p.Subjects))
		c := api.Channel{Name: fmt.Sprint("c.", n), From: p.Subjects[from].Name, To: other(from), How: 1 + m.Intn(4)}
		if c.How == api.ByVector {
			c.Vector = uint64(m.Intn(3))
		}
		p.Channels = append(p.Channels, c)
	}
	for n := range m.Intn(3) {
		p.Irqs = append(p.Irqs, api.IrqLine{Name: fmt.Sprint("i.", n), From: pick(m.Rand, p.Devices...).Name, To: pick(m.Rand, p.Subjects...).Name, Vector: uint64(m.Intn(3)), Masked: m.Intn(2) == 0})
	}
}

// plans leave a subject out now and then.
func (m maker) plans(p *api.Policy) {
	for n := range pick(m.Rand, 1, 1, 2, 3) {
		plan := api.Plan{Name: fmt.Sprint("p.", n), Major: pick[uint64](m.Rand, 8, 64, 65536)}
		for cpu := range uint64(4) {
			l := api.Lane{CPU: cpu, Needs: m.Intn(3) == 0}
			for _, k := range m.Perm(len(p.Subjects)) {
				x := p.Subjects[k]
				if x.CPU != cpu || m.Intn(8) == 0 {
					continue
				}
				if l.Needs {
					l.Runs = append(l.Runs, api.Run{Subject: x.Name, Budget: plan.Major / 8, Period: plan.Major})
				} else {
					l.Runs = append(l.Runs, api.Run{Subject: x.Name, Budget: plan.Major / 8})
				}
			}
			if !l.Needs && m.Intn(2) == 0 {
				l.Runs = append([]api.Run{{Budget: 1}}, l.Runs...)
			}
			if m.Intn(8) > 0 {
				plan.Lanes = append(plan.Lanes, l)
			}
		}
		p.Plans = append(p.Plans, plan)
	}
	p.Starts = []api.Pick{{Name: pick(m.Rand, p.Plans...).Name}}
	if len(p.Plans) > 1 || m.Intn(2) == 0 {
		p.Masters = []api.Pick{{Name: pick(m.Rand, p.Subjects...).Name}}
	}
}

// TestFactsAtRandom: P17.1, W3: a policy's edges, and a witness of each, or what
// is refused.
func TestFactsAtRandom(t *testing.T) {
	t.Parallel()
	m := maker{rand.New(rand.NewSource(17))}
	met, refusals := map[string]int{}, map[api.Errno]int{}
	for n := range 300 {
		p := m.policy(t)
		what := fmt.Sprint("policy ", n)
		f, want := facts(t, p), drawnAnew(p)
		if f.Subjects != want.Subjects || f.Devices != want.Devices || !slices.Equal(f.Irqs, want.Irqs) || !slices.Equal(f.Edges, want.Edges) {
			t.Fatalf("P17.1: %s: %+v, want %+v", what, f, want)
		}
		for u := -1; u <= f.Subjects+f.Devices; u++ {
			for s := -1; s <= f.Subjects+f.Devices; s++ {
				why := refused(p, u, s)
				holdAnswer(t, what, p, u, s, why)
				refusals[why]++
				if why != api.OK {
					continue
				}
				kinds := ties(p, u, s)
				met[kinds[0]]++
				if p.Subjects[s].Stopped {
					met["stopped"]++
				}
			}
		}
	}
	for _, kind := range []string{"object", "window", "irq", "bit", "reset", "stop", "start", "rule", "master", "stopped"} {
		if met[kind] < 5 {
			t.Errorf("the policies are too tame: %d witnesses by %s", met[kind], kind)
		}
	}
	for _, why := range []api.Errno{api.OK, api.ErrActor, api.ErrEdge, api.ErrTurn, api.ErrStopped} {
		if refusals[why] < 20 {
			t.Errorf("the policies are too tame: %d times %v", refusals[why], why)
		}
	}
}

// step is one at random of an actor, most of which do something; of -1: of
// nobody.
func (m maker) step(p api.Policy, actor int) api.Step {
	subjects := len(p.Subjects)
	s := api.Step{Kind: api.Access + m.Intn(8), Subject: actor, Width: pick(m.Rand, 1, 1, 2, 8), Value: uint64(m.Intn(4)), Access: 1 + m.Intn(3)}
	switch {
	case actor < 0:
		s = api.Step{Kind: api.Tick, Value: pick[uint64](m.Rand, 0, 1, 1, 2, 6, 64, 8192, 65536)}
		if m.Intn(8) == 0 {
			s = pick(m.Rand, api.Step{Kind: 99}, api.Step{Kind: api.Wait, Subject: 99}, api.Step{Kind: api.Irq, Number: -1}, api.Step{Kind: api.Dma, Number: 99})
		}
		return s
	case actor >= subjects:
		s.Kind, s.Subject, s.Number = pick(m.Rand, api.Write, api.Dma, api.Dma), m.Intn(subjects), actor-subjects
		irqs := slices.DeleteFunc(m.Perm(len(p.Irqs)), func(n int) bool { return p.Irqs[n].From != p.Devices[s.Number].Name })
		if len(irqs) > 0 && m.Intn(2) == 0 {
			s.Kind, s.Number = api.Irq, irqs[0]
		}
	case m.Intn(2) == 0:
		s.Kind = pick(m.Rand, api.Access, api.Signal)
	}
	switch s.Kind {
	case api.Signal:
		s.Number = m.Intn(len(p.Channels) + 1)
	case api.Switch:
		s.Number = m.Intn(len(p.Plans) + 1)
	case api.Unmask:
		s.Number = m.Intn(len(p.Irqs) + 1)
	case api.Arm:
		s.At = uint64(m.Intn(20))
	case api.Access, api.Dma:
		if maps := mapsOf(p, actor); len(maps) > 0 && m.Intn(5) > 0 {
			s.At = pick(m.Rand, maps...).At
		}
	}
	return s
}

// script is steps of everybody, most of them of who is current when they come,
// and of one more than of others.
func (m maker) script(t testing.TB, p api.Policy, one, long int) []api.Step {
	t.Helper()
	k := booted(t, p)
	var out []api.Step
	for range long {
		who := m.Intn(len(p.Subjects)+len(p.Devices)+3) - 3
		if now := k.Current(m.Intn(4)); now >= 0 && m.Intn(2) == 0 {
			who = now
		}
		if k.Current(int(p.Subjects[one].CPU)) == one && m.Intn(2) == 0 {
			who = one
		}
		out = append(out, m.step(p, who))
		k.Step(out[len(out)-1])
	}
	return out
}

// turned is a script with other steps of those whom v does not hear.
func (m maker) turned(p api.Policy, f api.Facts, script []api.Step, v int) []api.Step {
	heard := Src(f, v)
	var deaf []int
	for n := range f.Subjects + f.Devices {
		if !slices.Contains(heard, n) {
			deaf = append(deaf, n)
		}
	}
	var out []api.Step
	for _, s := range script {
		if who := owner(p, s); who >= 0 && !slices.Contains(heard, who) && m.Intn(3) > 0 {
			continue
		}
		for len(deaf) > 0 && m.Intn(3) == 0 {
			out = append(out, m.step(p, pick(m.Rand, deaf...)))
		}
		out = append(out, s)
	}
	return out
}

// TestNobodyElse: P17.9, W2: two scripts that are purged to one make a subject
// hear one thing.
func TestNobodyElse(t *testing.T) {
	t.Parallel()
	m := maker{rand.New(rand.NewSource(18))}
	told, unlike := 0, 0
	for n := range 300 {
		p := m.policy(t)
		f := facts(t, p)
		v := m.Intn(f.Subjects)
		script := m.script(t, p, v, 150)
		other := m.turned(p, f, script, v)
		if !slices.Equal(Purge(f, script, v), Purge(f, other, v)) {
			t.Fatalf("P17.4: policy %d: other steps are left", n)
		}
		one, two, purged := answers(t, p, script, v), answers(t, p, other, v), answers(t, p, Purge(f, script, v), v)
		if !slices.Equal(one, two) || !slices.Equal(one, purged) {
			t.Fatalf("W2: policy %d: %d hears somebody else: %v, %v, %v", n, v, one, two, purged)
		}
		if !slices.Equal(script, other) {
			unlike++
		}
		for _, r := range one {
			if r.Why == api.OK {
				told++
			}
		}
	}
	if unlike < 100 || told < 1000 {
		t.Errorf("the scripts are too tame: %d pairs, %d steps that answer", unlike, told)
	}
}

// facts are any: with ends that are no actors, twice the same, of itself.
func (m maker) facts() api.Facts {
	f := api.Facts{Subjects: m.Intn(6) - 1, Devices: m.Intn(5) - 1}
	for range m.Intn(4) {
		f.Irqs = append(f.Irqs, m.Intn(6)-1)
	}
	for range m.Intn(14) {
		f.Edges = append(f.Edges, api.Edge{From: m.Intn(11) - 1, To: m.Intn(11) - 1})
	}
	return f
}

// TestSrcAtRandom: P17.2, P17.7: against the words, of edges in any order; and
// what follows.
func TestSrcAtRandom(t *testing.T) {
	t.Parallel()
	m := maker{rand.New(rand.NewSource(19))}
	for range 2000 {
		f := m.facts()
		src := map[int][]int{}
		for v := -1; v < 12; v++ {
			src[v] = Src(f, v)
			if want := least(f, v); !slices.Equal(src[v], want) {
				t.Fatalf("P17.2: %+v: of %d: %v, want %v", f, v, src[v], want)
			}
		}
		for x, list := range src {
			for _, w := range list {
				for _, v := range src[w] {
					if !slices.Contains(list, v) {
						t.Fatalf("P17.7: %+v: %d is in that of %d, which is in that of %d", f, v, w, x)
					}
				}
			}
		}
		other := f
		other.Edges = append(slices.Clone(f.Edges), f.Edges...)
		m.Shuffle(len(other.Edges), func(i, j int) { other.Edges[i], other.Edges[j] = other.Edges[j], other.Edges[i] })
		for v, list := range src {
			if !slices.Equal(Src(other, v), list) {
				t.Fatalf("P17.7: %+v: of %d, other than in another order", f, v)
			}
		}
	}
}

// TestPurgeAtRandom: P17.3, P17.4, P17.8: step by step, and what follows.
func TestPurgeAtRandom(t *testing.T) {
	t.Parallel()
	m := maker{rand.New(rand.NewSource(20))}
	for range 2000 {
		f := m.facts()
		var script []api.Step
		for range m.Intn(20) {
			script = append(script, api.Step{Kind: m.Intn(15), Subject: m.Intn(8) - 1, Number: m.Intn(8) - 1, Value: m.Uint64()})
		}
		for v := -1; v < 10; v++ {
			var want []api.Step
			src := least(f, v)
			for _, s := range script {
				if who := Of(f, s); who == -1 || slices.Contains(src, who) {
					want = append(want, s)
				}
			}
			left := Purge(f, script, v)
			if !slices.Equal(left, want) || !slices.Equal(Purge(f, left, v), left) {
				t.Fatalf("P17.4, P17.8: %+v: to %d: %v, want %v", f, v, left, want)
			}
			for w := range 10 {
				if slices.Contains(Src(f, w), v) && !slices.Equal(Purge(f, Purge(f, script, w), v), left) {
					t.Fatalf("P17.8: %+v: to %d and to %d", f, w, v)
				}
			}
		}
	}
}

// TestDiffAtRandom: P17.5: what is in one alone, rising and once.
func TestDiffAtRandom(t *testing.T) {
	t.Parallel()
	m := maker{rand.New(rand.NewSource(21))}
	alone := func(one, other []api.Edge) []api.Edge {
		var out []api.Edge
		for from := -1; from < 10; from++ {
			for to := -1; to < 10; to++ {
				if e := (api.Edge{From: from, To: to}); slices.Contains(one, e) && !slices.Contains(other, e) {
					out = append(out, e)
				}
			}
		}
		return out
	}
	for range 2000 {
		old, late := m.facts(), m.facts()
		if m.Intn(2) == 0 {
			late.Edges = append(late.Edges, old.Edges...)
		}
		gone, come := Diff(old, late)
		if !slices.Equal(gone, alone(old.Edges, late.Edges)) || !slices.Equal(come, alone(late.Edges, old.Edges)) {
			t.Fatalf("P17.5: %v, %v: %v, %v", old.Edges, late.Edges, gone, come)
		}
	}
}

// TestKeepsNothing: R2, R4: what is handed in stays as it is, and an answer is
// new memory, the same each time.
func TestKeepsNothing(t *testing.T) {
	t.Parallel()
	p, twin := policy(t, string(forge.Family(8))), policy(t, string(forge.Family(8)))
	f := facts(t, p)
	script := []api.Step{{Kind: api.Tick}, {Kind: api.Wait, Subject: 1}, {Kind: api.Irq}}
	given := slices.Clone(script)
	for range 20 {
		again := facts(t, p)
		if !reflect.DeepEqual(again, f) {
			t.Fatalf("R4: %+v, %+v", again, f)
		}
		again.Edges[0], again.Irqs[0] = api.Edge{From: 9, To: 9}, 9
		src := Src(f, 0)
		if !slices.Equal(src, Src(f, 0)) {
			t.Fatal("R4: Src")
		}
		left := Purge(f, script, 0)
		if len(left) != 3 {
			t.Fatalf("P17.4: %v", left)
		}
		left[0].Kind = 77
		gone, _ := Diff(f, api.Facts{})
		gone[0] = api.Edge{}
		x, y, _ := Witness(p, 1, 0)
		again1, again2, _ := Witness(p, 1, 0)
		if !slices.Equal(x, again1) || !slices.Equal(y, again2) {
			t.Fatal("R4: Witness")
		}
		x[0].Kind = 77
		if y[0].Kind == 77 || !slices.Equal(script, given) {
			t.Fatal("R2: two lists share memory")
		}
	}
	if !reflect.DeepEqual(p, twin) || !reflect.DeepEqual(f, facts(t, twin)) {
		t.Error("R2: what was handed in is changed")
	}
}

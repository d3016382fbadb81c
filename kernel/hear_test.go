package kernel

import (
	"math/rand"
	"slices"
	"testing"

	"bulkhead/api"
	"bulkhead/forge"
)

// TestWriterHearsNothing: R10: what a writer is answered is one thing, whatever
// its reader does.
func TestWriterHearsNothing(t *testing.T) {
	t.Parallel()
	states := map[string][]api.Step{
		"as at boot":         nil,
		"asleep":             {wait(1)},
		"stopped":            {signal(0, 2)},
		"stopped and asleep": {wait(1), signal(0, 2)},
		"has the bits":       {signal(0, 0), irq(2), irq(1), load(0, 0, 1)},
		"was reset":          {signal(0, 1)},
		"has a timer":        {arm(1, 1, 5)},
		"not current":        {tick(8)},
	}
	for what, steps := range states {
		k, _ := up(t, whole)
		for _, s := range steps {
			if r := k.Step(s); r.Why != api.OK && r.Why != api.ErrAbsent {
				t.Fatalf("%s: %+v: %+v", what, s, r)
			}
		}
		for range 2 {
			for number := range 4 {
				play(t, "R10: "+what, k, row{signal(0, number), fine})
			}
			play(t, "R10: "+what, k, row{load(0, 0, 1), fault(api.ErrAbsent, 0)}, row{irq(1), fine}, row{irq(2), fine}, row{wait(0), fine}, row{irq(0), fine}, row{poll(0, 0), value(1)})
		}
	}
}

// windows tells of which device's window a page is one.
func (w *world) windows() map[sheet]int {
	out := map[sheet]int{}
	for d, g := range w.gears {
		for _, s := range g.window {
			out[s] = d
		}
	}
	return out
}

// maps tells what an actor maps, a whole window as one thing, and whether for
// writing.
func (w *world) maps(actor int) map[sheet]bool {
	var views map[uint64]view
	if actor < len(w.beings) {
		views = w.beings[actor].views
	} else {
		views = w.gears[actor-len(w.beings)].views
	}
	out, windows := map[sheet]bool{}, w.windows()
	for _, v := range views {
		thing := v.sheet
		if d, ok := windows[thing]; ok {
			thing = window(d)
		}
		out[thing] = out[thing] || v.write
	}
	return out
}

func window(d int) sheet { return sheet{"a window", uint64(d)} }

// heard tells who can influence a subject, by the document's section 'Flow'.
func (w *world) heard(who int) map[int]bool {
	subjects := len(w.beings)
	maps := make([]map[sheet]bool, subjects+len(w.gears))
	for n := range maps {
		maps[n] = w.maps(n)
	}
	edge := func(u, v int) bool {
		for thing, write := range maps[u] {
			if _, ok := maps[v][thing]; ok && write || v >= subjects && write && thing == window(v-subjects) {
				return true
			}
		}
		if u >= subjects {
			_, ok := maps[v][window(u-subjects)]
			return ok || slices.ContainsFunc(w.irqs, func(q wire) bool { return q.From == u-subjects && q.To == v })
		}
		b := w.beings[u]
		return slices.ContainsFunc(w.channels, func(c api.Link) bool { return c.From == u && c.To == v }) ||
			b.rule == api.ByVector && b.to == v || u == w.master && v < subjects && len(w.majors) > 1
	}
	out := map[int]bool{who: true}
	for range maps {
		for u := range maps {
			for v := range maps {
				if u != v && out[v] && edge(u, v) {
					out[u] = true
				}
			}
		}
	}
	return out
}

// of tells whose step it is; -1: nobody's.
func (w *world) of(s api.Step) int {
	among := func(n, many int) bool { return n >= 0 && n < many }
	switch {
	case s.Kind >= api.Access && s.Kind <= api.Unmask && among(s.Subject, len(w.beings)):
		return s.Subject
	case (s.Kind == api.Write || s.Kind == api.Dma) && among(s.Number, len(w.gears)):
		return len(w.beings) + s.Number
	case s.Kind == api.Irq && among(s.Number, len(w.irqs)):
		return len(w.beings) + w.irqs[s.Number].From
	}
	return -1
}

// sparse takes most ties out of a policy, so that not all hear all.
func (m maker) sparse(t testing.TB) forge.Built {
	t.Helper()
	p := m.built(t).Policy
	p.Channels = p.Channels[:min(len(p.Channels), m.Intn(4))]
	p.Irqs = p.Irqs[:min(len(p.Irqs), m.Intn(3))]
	if m.Intn(2) == 0 {
		p.Plans = slices.DeleteFunc(p.Plans, func(x api.Plan) bool { return x.Name != p.Starts[0].Name })
	}
	for n := range p.Subjects {
		if s := &p.Subjects[n]; len(s.Rules) > 0 && s.Rules[0].How == api.ByVector && m.Intn(2) == 0 {
			s.Rules = nil
		}
		for k := range p.Subjects[n].Maps {
			if m.Intn(2) == 0 {
				p.Subjects[n].Maps[k].Write = false
			}
		}
	}
	b, _, why := forge.Emit(p)
	if why != api.OK {
		t.Fatal(why)
	}
	return b
}

// others is a script of the same steps, but for those whose steps nobody in
// the set hears: in their places stand other ones of theirs.
func (m maker) others(w *world, script []api.Step, heard map[int]bool) []api.Step {
	var out []api.Step
	for _, s := range script {
		if actor := w.of(s); actor < 0 || heard[actor] {
			out = append(out, s)
			w.step(s)
		}
		for range m.Intn(3) {
			if s := m.step(w); w.of(s) >= 0 && !heard[w.of(s)] {
				out = append(out, s)
				w.step(s)
			}
		}
	}
	return out
}

// answers are those to the steps of a subject.
func answers(k *Kernel, script []api.Step, w *world, who int) []api.Result {
	var out []api.Result
	for n, r := range k.Run(script) {
		if w.of(script[n]) == who {
			out = append(out, r)
		}
	}
	return out
}

// TestNobodyElseIsHeard: W2: of policies at random, and of images that none
// means.
func TestNobodyElseIsHeard(t *testing.T) {
	t.Parallel()
	m := maker{rand.New(rand.NewSource(11))}
	quiet, told := 0, 0
	for n := range 120 {
		b := m.sparse(t)
		raw, grounds := b.Image, forge.Bus(b.Policy)
		if n%4 == 0 {
			raw, grounds = m.image(t)
		}
		i := read(t, raw)
		if len(i.Subjects) == 0 {
			continue
		}
		fresh := func() *world { return said(i, len(raw)/4096, machine(t, grounds)) }
		start := func() *Kernel {
			k, err := Boot(machine(t, grounds), raw)
			if err != nil {
				t.Fatal(err)
			}
			return k
		}
		w := fresh()
		var script []api.Step
		for range 150 {
			s := m.step(w)
			w.step(s)
			script = append(script, s)
		}
		for who := range i.Subjects {
			heard := w.heard(who)
			if len(heard) == len(i.Subjects)+len(i.Devices) {
				continue
			}
			other := m.others(fresh(), script, heard)
			x, y := answers(start(), script, w, who), answers(start(), other, w, who)
			if !slices.Equal(x, y) {
				t.Fatalf("W2: image %d, subject %d hears one whom it should not:\n%v\n%v", n, who, x, y)
			}
			quiet++
			told += len(x)
		}
	}
	if quiet < 100 || told < 1000 {
		t.Errorf("the systems are too tame: %d subjects that do not hear all, %d answers", quiet, told)
	}
}

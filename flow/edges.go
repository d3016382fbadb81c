package flow

import "bulkhead/api"

// drawn is the facts of a policy that can be built.
func drawn(p api.Policy) api.Facts {
	s := survey{Policy: p, subjects: map[string]int{}, devices: map[string]int{}, net: newNet()}
	for n, x := range p.Subjects {
		s.subjects[x.Name] = n
	}
	for n, d := range p.Devices {
		s.devices[d.Name] = n
	}
	s.objects()
	s.links()
	s.master()
	f := api.Facts{Subjects: len(p.Subjects), Devices: len(p.Devices), Edges: s.without(newNet())}
	for _, q := range p.Irqs {
		f.Irqs = append(f.Irqs, s.devices[q.From])
	}
	return f
}

// survey gathers the edges of a policy.
type survey struct {
	api.Policy
	subjects, devices map[string]int
	net
}

func (s survey) join(u, v int) {
	if u != v {
		s.into.put(v, u)
	}
}

// device is the actor that a device is.
func (s survey) device(name string) int { return len(s.Subjects) + s.devices[name] }

// objects joins those who alter an object with those who see it. A device
// alters and sees its own window.
func (s survey) objects() {
	seen, altered := book[string]{}, book[string]{}
	look := func(actor int, list []api.Map) {
		for _, m := range list {
			seen.put(m.Of, actor)
			if m.Write {
				altered.put(m.Of, actor)
			}
		}
	}
	for n, x := range s.Subjects {
		look(n, x.Maps)
	}
	for _, d := range s.Devices {
		look(s.device(d.Name), d.Maps)
		look(s.device(d.Name), []api.Map{{Of: d.Name, Write: true}})
	}
	altered.each(func(object string, u int) {
		for v := range seen[object] {
			s.join(u, v)
		}
	})
}

// links joins the ends of channels, irqs, and rules that tell.
func (s survey) links() {
	for _, c := range s.Channels {
		s.join(s.subjects[c.From], s.subjects[c.To])
	}
	for _, q := range s.Irqs {
		s.join(s.device(q.From), s.subjects[q.To])
	}
	for n, x := range s.Subjects {
		for _, r := range x.Rules {
			if r.How == api.ByVector {
				s.join(n, s.subjects[r.To])
			}
		}
	}
}

// master joins the master with all other subjects, if there is another plan
// that it could switch to.
func (s survey) master() {
	if len(s.Plans) < 2 {
		return
	}
	for _, m := range s.Masters {
		for n := range s.Subjects {
			s.join(s.subjects[m.Name], n)
		}
	}
}

package flow

import (
	"slices"

	"bulkhead/api"
)

// The chapter's and the document's words, taken one by one: what is held
// against the package.

// among tells whether a number is one of so many.
func among(n, many int) bool { return n >= 0 && n < many }

// mapsOf are an actor's mappings.
func mapsOf(p api.Policy, actor int) []api.Map {
	if actor < len(p.Subjects) {
		return p.Subjects[actor].Maps
	}
	return p.Devices[actor-len(p.Subjects)].Maps
}

// ties tells each kind of edge that there is from u to v, by the words of
// 'Flow'.
func ties(p api.Policy, u, v int) []string {
	var out []string
	tie := func(kind string, ok bool) {
		if ok && u != v && !slices.Contains(out, kind) {
			out = append(out, kind)
		}
	}
	subjects := len(p.Subjects)
	for _, w := range mapsOf(p, u) {
		for _, r := range mapsOf(p, v) {
			tie("object", w.Write && w.Of == r.Of)
		}
		tie("to window", v >= subjects && w.Write && w.Of == p.Devices[max(v-subjects, 0)].Name)
	}
	if u >= subjects {
		d := p.Devices[u-subjects]
		for _, r := range mapsOf(p, v) {
			tie("window", r.Of == d.Name)
		}
		for _, q := range p.Irqs {
			tie("irq", q.From == d.Name && v < subjects && q.To == p.Subjects[v].Name)
		}
		return out
	}
	if v >= subjects {
		return out
	}
	from, to := p.Subjects[u], p.Subjects[v]
	for _, c := range p.Channels {
		tie([]string{"", "bit", "reset", "stop", "start"}[c.How], c.From == from.Name && c.To == to.Name)
	}
	for _, r := range from.Rules {
		tie("rule", r.How == api.ByVector && r.To == to.Name)
	}
	tie("master", len(p.Plans) > 1 && p.Masters[0].Name == from.Name)
	return out
}

// drawnAnew are a policy's facts.
func drawnAnew(p api.Policy) api.Facts {
	f := api.Facts{Subjects: len(p.Subjects), Devices: len(p.Devices)}
	for u := range f.Subjects + f.Devices {
		for v := range f.Subjects + f.Devices {
			if len(ties(p, u, v)) > 0 {
				f.Edges = append(f.Edges, api.Edge{From: u, To: v})
			}
		}
	}
	for _, q := range p.Irqs {
		f.Irqs = append(f.Irqs, slices.IndexFunc(p.Devices, func(d api.Device) bool { return d.Name == q.From }))
	}
	return f
}

// owner tells whose step it is, by the words of 'Flow'; -1: nobody's.
func owner(p api.Policy, s api.Step) int {
	switch s.Kind {
	case api.Access, api.Signal, api.Poll, api.Wait, api.Arm, api.Status, api.Switch, api.Unmask:
		if among(s.Subject, len(p.Subjects)) {
			return s.Subject
		}
	case api.Write, api.Dma:
		if among(s.Number, len(p.Devices)) {
			return len(p.Subjects) + s.Number
		}
	case api.Irq:
		if among(s.Number, len(p.Irqs)) {
			return len(p.Subjects) + slices.IndexFunc(p.Devices, func(d api.Device) bool { return d.Name == p.Irqs[s.Number].From })
		}
	}
	return -1
}

// least is the least set of P17.2, grown round by round.
func least(f api.Facts, v int) []int {
	actors := min(max(f.Subjects, 0), 1<<20) + min(max(f.Devices, 0), 1<<20)
	if !among(v, actors) {
		return nil
	}
	out := []int{v}
	for grows := true; grows; {
		grows = false
		for _, e := range f.Edges {
			if among(e.From, actors) && slices.Contains(out, e.To) && !slices.Contains(out, e.From) {
				out, grows = append(out, e.From), true
			}
		}
	}
	slices.Sort(out)
	return out
}

// runs tells whether a subject has a run in the start plan.
func runs(p api.Policy, s int) bool {
	for _, n := range p.Plans {
		for _, l := range n.Lanes {
			for _, r := range l.Runs {
				if n.Name == p.Starts[0].Name && r.Subject == p.Subjects[s].Name {
					return true
				}
			}
		}
	}
	return false
}

// refused is what Witness is to answer of a policy that can be built.
func refused(p api.Policy, u, s int) api.Errno {
	subjects := len(p.Subjects)
	switch {
	case !among(u, subjects+len(p.Devices)) || !among(s, subjects):
		return api.ErrActor
	case len(ties(p, u, s)) == 0:
		return api.ErrEdge
	case !runs(p, s) || u < subjects && !runs(p, u):
		return api.ErrTurn
	case u < subjects && p.Subjects[u].Stopped:
		return api.ErrStopped
	case p.Subjects[s].Stopped && !slices.Contains(ties(p, u, s), "start"):
		return api.ErrStopped
	}
	return api.OK
}

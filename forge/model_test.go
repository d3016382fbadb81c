package forge

import (
	"slices"

	"bulkhead/api"
	"bulkhead/bundle"
	"bulkhead/check"
	"bulkhead/lanes"
	"bulkhead/pages"
	"bulkhead/place"
	"bulkhead/syntax"
	"bulkhead/unfold"
)

// The chapter's words, sentence by sentence: names are looked for one by one,
// tables are built twice, at first to be counted.

// read is Read.
func read(src []byte) (api.Policy, Refusal) {
	if len(src) > 1<<20 {
		return api.Policy{}, Refusal{Class: TooLong, Place: api.Place{Line: 1, Column: 1}, Why: api.ErrLong}
	}
	tree, spot, why := syntax.Parse(src)
	if why != api.OK {
		return api.Policy{}, Refusal{Class: Syntax, Place: spot, Why: why}
	}
	p, at, why := unfold.Unfold(tree)
	if why == api.OK {
		at, why = check.Check(p)
	}
	if why != api.OK {
		return api.Policy{}, Refusal{Class: IllFormed, Place: syntax.At(src, at), Why: why}
	}
	return p, Refusal{}
}

// compile is Compile.
func compile(src []byte) (Built, Refusal) {
	p, r := read(src)
	if r.Class != 0 {
		return Built{}, r
	}
	b, at, why := emit(p)
	if why != api.OK {
		return Built{}, Refusal{Class: NoSpace, Place: syntax.At(src, at), Why: why}
	}
	return b, Refusal{}
}

// emit is Emit.
func emit(p api.Policy) (Built, int, api.Errno) {
	if at, why := check.Check(p); why != api.OK {
		return Built{}, at, why
	}
	l, region, why := place.Lay(p)
	if why != api.OK && region == -1 {
		return Built{}, p.Pos, why
	}
	if why != api.OK {
		return Built{}, p.Regions[region].Pos, why
	}
	raw, why := bundle.Encode(image(p, l))
	return Built{Policy: p, Layout: l, Image: raw}, 0, why
}

// image is Image of a policy that is taken, and of its layout.
func image(p api.Policy, l api.Layout) api.Image {
	i := api.Image{Base: l.Image, Master: -1}
	for _, r := range p.Rams {
		i.Bus.Rams = append(i.Bus.Rams, api.Range{At: r.At, Size: r.Size})
	}
	for _, d := range p.Devices {
		i.Bus.Devices = append(i.Bus.Devices, api.Range{At: d.At, Size: d.Size})
	}
	i.Subjects, i.Devices, i.Tables = spaces(p, l)
	for n, s := range p.Subjects {
		t := &i.Subjects[n]
		t.CPU, t.Stopped, t.To = int(s.CPU), s.Stopped, -1
		if len(s.Rules) > 0 {
			t.Rule = s.Rules[0].How
		}
		if t.Rule == api.ByVector {
			t.To, t.Vector = subjectOf(p, s.Rules[0].To), int(s.Rules[0].Vector)
		}
	}
	for n, r := range p.Regions {
		g := api.Ground{At: l.Regions[n], Size: r.Size}
		if r.Texted {
			g.Text = r.Text
		} else {
			g.Fill = uint8(r.Fill)
		}
		i.Regions = append(i.Regions, g)
	}
	for _, c := range p.Channels {
		k := api.Link{From: subjectOf(p, c.From), To: subjectOf(p, c.To), Effect: c.How}
		if c.How == api.ByVector {
			k.Vector = int(c.Vector)
		}
		i.Channels = append(i.Channels, k)
	}
	for _, q := range p.Irqs {
		i.Irqs = append(i.Irqs, api.Link{From: deviceOf(p, q.From), To: subjectOf(p, q.To), Effect: 1, Vector: int(q.Vector), Masked: q.Masked})
	}
	for _, n := range p.Plans {
		i.Plans = append(i.Plans, planOf(p, n))
	}
	if len(p.Masters) > 0 {
		i.Master = subjectOf(p, p.Masters[0].Name)
	}
	i.Start = slices.IndexFunc(p.Plans, func(n api.Plan) bool { return n.Name == p.Starts[0].Name })
	return i
}

func subjectOf(p api.Policy, name string) int {
	return slices.IndexFunc(p.Subjects, func(s api.Subject) bool { return s.Name == name })
}

func deviceOf(p api.Policy, name string) int {
	return slices.IndexFunc(p.Devices, func(d api.Device) bool { return d.Name == name })
}

func regionOf(p api.Policy, name string) int {
	return slices.IndexFunc(p.Regions, func(r api.Region) bool { return r.Name == name })
}

// planOf is a plan's schedule: CPU by CPU.
func planOf(p api.Policy, n api.Plan) api.Schedule {
	s := api.Schedule{Major: int(n.Major)}
	for cpu := range uint64(4) {
		k := slices.IndexFunc(n.Lanes, func(l api.Lane) bool { return l.CPU == cpu })
		if k < 0 {
			s.Lanes = append(s.Lanes, []api.Stint{{Subject: -1, Ticks: int(n.Major)}})
			continue
		}
		slots, _, _ := lanes.Flatten(n.Major, n.Lanes[k])
		var row []api.Stint
		for _, slot := range slots {
			row = append(row, api.Stint{Subject: subjectOf(p, slot.Subject), Ticks: slot.To - slot.From})
		}
		s.Lanes = append(s.Lanes, row)
	}
	return s
}

// spaces are all tables, and the roots that they have.
func spaces(p api.Policy, l api.Layout) ([]api.Tenant, []api.Port, []api.Table) {
	subjects, devices := make([]api.Tenant, len(p.Subjects)), make([]api.Port, len(p.Devices))
	build := func(base uint64) []api.Table {
		var out []api.Table
		add := func(maps []api.Map) int {
			root := len(out)
			tables, _ := pages.Build(leavesOf(p, l, maps), base+uint64(root)*4096)
			out = append(out, tables...)
			return root
		}
		for n, s := range p.Subjects {
			subjects[n].Root = add(s.Maps)
		}
		for n, d := range p.Devices {
			devices[n].Root = -1
			if len(d.Maps) > 0 {
				devices[n].Root = add(d.Maps)
			}
		}
		return out
	}
	many := len(build(0))
	return subjects, devices, build(l.Image + uint64(l.Pages-many)*4096)
}

// leavesOf are a space's rows: the lowest one that is left first.
func leavesOf(p api.Policy, l api.Layout, maps []api.Map) []api.Leaf {
	left := slices.Clone(maps)
	var out []api.Leaf
	for len(left) > 0 {
		low := 0
		for n, m := range left {
			if m.At < left[low].At {
				low = n
			}
		}
		m := left[low]
		left = slices.Delete(left, low, low+1)
		if n := regionOf(p, m.Of); n >= 0 {
			r := p.Regions[n]
			out = append(out, api.Leaf{Virt: m.At, Phys: l.Regions[n], Pages: int(r.Size >> 12), Big: r.Big, Write: m.Write, Exec: m.Exec})
			continue
		}
		d := p.Devices[deviceOf(p, m.Of)]
		out = append(out, api.Leaf{Virt: m.At, Phys: d.At, Pages: int(d.Size >> 12), Write: m.Write, Exec: m.Exec})
	}
	return out
}

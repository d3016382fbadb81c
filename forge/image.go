package forge

import (
	"bulkhead/api"
	"bulkhead/check"
	"bulkhead/lanes"
)

// none is the number of what there is not.
const none = -1

// draft is an image that is being made of a policy that can be built.
type draft struct {
	policy api.Policy
	layout api.Layout
	// The numbers of names.
	subjects, devices, regions, plans map[string]int
	// Where the first table lies, and those that are made.
	first  uint64
	tables []api.Table
}

// begun is a draft without a table.
func begun(p api.Policy, l api.Layout) *draft {
	d := &draft{
		policy:   p,
		layout:   l,
		subjects: numbers(p.Subjects, func(s api.Subject) string { return s.Name }),
		devices:  numbers(p.Devices, func(v api.Device) string { return v.Name }),
		regions:  numbers(p.Regions, func(r api.Region) string { return r.Name }),
		plans:    numbers(p.Plans, func(n api.Plan) string { return n.Name }),
	}
	// The tables are the image's last pages, and each says where others lie:
	// so how many there are must be known ahead of the first one.
	d.first = l.Image + uint64(l.Pages-d.many())*api.Page
	return d
}

// numbers tells the number of each name in a list.
func numbers[T any](list []T, name func(T) string) map[string]int {
	out := make(map[string]int)
	for i, x := range list {
		out[name(x)] = i
	}
	return out
}

// many tells how many tables there will be.
func (d *draft) many() int {
	sum := 0
	for _, s := range d.policy.Subjects {
		sum += check.Tables(s.Maps, d.policy)
	}
	for _, v := range d.policy.Devices {
		if len(v.Maps) > 0 {
			sum += check.Tables(v.Maps, d.policy)
		}
	}
	return sum
}

// drawn is the image of a policy that can be built, as it is laid out: so no
// deeper layer refuses what is asked of it here.
func drawn(p api.Policy, l api.Layout) api.Image {
	d := begun(p, l)
	i := api.Image{Base: l.Image, Bus: Bus(p), Master: none}
	// The tables of subjects come ahead of those of devices.
	for _, s := range p.Subjects {
		i.Subjects = append(i.Subjects, d.tenant(s))
	}
	for _, v := range p.Devices {
		i.Devices = append(i.Devices, d.port(v))
	}
	for n, r := range p.Regions {
		i.Regions = append(i.Regions, api.Ground{At: l.Regions[n], Size: r.Size, Fill: uint8(r.Fill), Text: r.Text})
	}
	for _, c := range p.Channels {
		i.Channels = append(i.Channels, api.Link{From: d.subjects[c.From], To: d.subjects[c.To], Effect: c.How, Vector: int(c.Vector)})
	}
	for _, q := range p.Irqs {
		i.Irqs = append(i.Irqs, api.Link{From: d.devices[q.From], To: d.subjects[q.To], Effect: api.ByVector, Vector: int(q.Vector), Masked: q.Masked})
	}
	for _, n := range p.Plans {
		i.Plans = append(i.Plans, d.schedule(n))
	}
	for _, m := range p.Masters {
		i.Master = d.subjects[m.Name]
	}
	for _, s := range p.Starts {
		i.Start = d.plans[s.Name]
	}
	i.Tables = d.tables
	return i
}

// tenant is a subject, and its tables are made.
func (d *draft) tenant(s api.Subject) api.Tenant {
	t := api.Tenant{CPU: int(s.CPU), Root: d.root(s.Maps), Stopped: s.Stopped, To: none}
	for _, r := range s.Rules {
		t.Rule = r.How
		if r.How == api.ByVector {
			t.To, t.Vector = d.subjects[r.To], int(r.Vector)
		}
	}
	return t
}

// port is a device's own space, and its tables are made.
func (d *draft) port(v api.Device) api.Port {
	if len(v.Maps) == 0 {
		return api.Port{Root: none}
	}
	return api.Port{Root: d.root(v.Maps)}
}

// schedule is a plan: a lane for each CPU, nobody's where the plan has none.
func (d *draft) schedule(p api.Plan) api.Schedule {
	s := api.Schedule{Major: int(p.Major)}
	for range api.MaxCPUs {
		s.Lanes = append(s.Lanes, []api.Stint{{Subject: none, Ticks: s.Major}})
	}
	for _, l := range p.Lanes {
		slots, _, _ := lanes.Flatten(p.Major, l)
		s.Lanes[l.CPU] = d.stints(slots)
	}
	return s
}

// stints are a lane's slots, by the subjects' numbers.
func (d *draft) stints(slots []api.Slot) []api.Stint {
	var out []api.Stint
	for _, s := range slots {
		who, ok := d.subjects[s.Subject]
		if !ok {
			who = none
		}
		out = append(out, api.Stint{Subject: who, Ticks: s.To - s.From})
	}
	return out
}

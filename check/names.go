package check

import (
	"bulkhead/api"
	"bulkhead/scan"
)

// names is the first group: who has which name, and whether what is named is.
func (l *look) names() error {
	g := inOrder(api.ErrForm, api.ErrTwice, api.ErrName)
	l.flatNames(g)
	l.forms(g)
	l.twins(g)
	l.strangers(g)
	return g.found()
}

// flatNames asks whether the names are flat names.
func (l *look) flatNames(g *group) {
	for _, names := range l.known.all() {
		for name, h := range names {
			g.wrong(h.lowest, api.ErrForm, !scan.Named(name))
		}
	}
}

// forms asks whether all is zero that has no meaning.
func (l *look) forms(g *group) {
	for _, r := range l.policy.Regions {
		g.wrong(r.Pos, api.ErrForm, !r.Fixed && r.At != 0)
		g.wrong(r.Pos, api.ErrForm, !r.Texted && r.Text != "")
		g.wrong(r.Pos, api.ErrForm, r.Texted && r.Fill != 0)
	}
	for _, s := range l.policy.Subjects {
		for _, r := range s.Rules {
			g.wrong(r.Pos, api.ErrForm, r.How < api.ByVector || r.How > api.ByStop)
			g.wrong(r.Pos, api.ErrForm, r.How != api.ByVector && (r.To != "" || r.Vector != 0))
		}
	}
	for _, c := range l.policy.Channels {
		g.wrong(c.Pos, api.ErrForm, c.How < api.ByVector || c.How > api.ByStart)
		g.wrong(c.Pos, api.ErrForm, c.How != api.ByVector && c.Vector != 0)
		g.wrong(c.Pos, api.ErrForm, !c.Shared && c.Over != "")
	}
	for _, plan := range l.policy.Plans {
		for _, lane := range plan.Lanes {
			for _, r := range lane.Runs {
				g.wrong(r.Pos, api.ErrForm, !lane.Needs && r.Period != 0)
			}
		}
	}
}

// twins asks who has what another one has, and what there are two of.
func (l *look) twins(g *group) {
	for _, names := range l.known.all() {
		twice(g, names)
	}
	for name, device := range l.known.devices {
		region := l.known.regions[name]
		g.wrong(max(device.lowest, region.lowest), api.ErrTwice, region.many > 0)
	}
	for _, plan := range l.policy.Plans {
		twice(g, registered(plan.Lanes, func(lane api.Lane) (uint64, int) { return lane.CPU, lane.Pos }))
	}
	for _, s := range l.policy.Subjects {
		single(g, s.Rules, func(r api.Rule) int { return r.Pos })
	}
	single(g, l.policy.Masters, func(p api.Pick) int { return p.Pos })
	single(g, l.policy.Starts, func(p api.Pick) int { return p.Pos })
}

// strangers asks whether what is named is there.
func (l *look) strangers(g *group) {
	regions, devices, subjects := l.known.regions, l.known.devices, l.known.subjects
	for _, d := range l.policy.Devices {
		for _, m := range d.Maps {
			g.wrong(m.Pos, api.ErrName, !regions.has(m.Of))
		}
	}
	for _, s := range l.policy.Subjects {
		for _, m := range s.Maps {
			g.wrong(m.Pos, api.ErrName, !regions.has(m.Of) && !devices.has(m.Of))
		}
		for _, r := range s.Rules {
			g.wrong(r.Pos, api.ErrName, r.How == api.ByVector && !subjects.has(r.To))
		}
	}
	for _, c := range l.policy.Channels {
		g.wrong(c.Pos, api.ErrName, !subjects.has(c.From) || !subjects.has(c.To))
		g.wrong(c.Pos, api.ErrName, c.Shared && !regions.has(c.Over))
	}
	for _, i := range l.policy.Irqs {
		g.wrong(i.Pos, api.ErrName, !devices.has(i.From) || !subjects.has(i.To))
	}
	for _, plan := range l.policy.Plans {
		for _, lane := range plan.Lanes {
			for _, r := range lane.Runs {
				g.wrong(r.Pos, api.ErrName, r.Subject != "" && !subjects.has(r.Subject))
			}
		}
	}
	for _, m := range l.policy.Masters {
		g.wrong(m.Pos, api.ErrName, !subjects.has(m.Name))
	}
	for _, s := range l.policy.Starts {
		g.wrong(s.Pos, api.ErrName, !l.known.plans.has(s.Name))
	}
}

// howMany is the second group: how long the lists are.
func (l *look) howMany() error {
	g := inOrder(api.ErrMany)
	p := l.policy
	beyond(g, p.Rams, api.MaxRams, func(r api.Ram) int { return r.Pos })
	beyond(g, p.Devices, api.MaxDevices, func(d api.Device) int { return d.Pos })
	beyond(g, p.Regions, api.MaxRegions, func(r api.Region) int { return r.Pos })
	beyond(g, p.Subjects, api.MaxSubjects, func(s api.Subject) int { return s.Pos })
	beyond(g, p.Channels, api.MaxChannels, func(c api.Channel) int { return c.Pos })
	beyond(g, p.Irqs, api.MaxIrqs, func(i api.IrqLine) int { return i.Pos })
	beyond(g, p.Plans, api.MaxPlans, func(n api.Plan) int { return n.Pos })
	for _, maps := range l.spaces() {
		beyond(g, maps, api.MaxMaps, func(m api.Map) int { return m.Pos })
	}
	return g.found()
}

// beyond takes on the first one of a list beyond so many.
func beyond[T any](g *group, list []T, most int, place func(T) int) {
	if len(list) > most {
		g.wrong(place(list[most]), api.ErrMany, true)
	}
}

// spaces are the mappings of each subject, and behind them those of each
// device that has some.
func (l *look) spaces() [][]api.Map {
	var list [][]api.Map
	for _, s := range l.policy.Subjects {
		list = append(list, s.Maps)
	}
	for _, d := range l.policy.Devices {
		if len(d.Maps) > 0 {
			list = append(list, d.Maps)
		}
	}
	return list
}

package check

import (
	"errors"

	"bulkhead/api"
	"bulkhead/lanes"
)

// who is the sixth group: subjects, and what goes from one to another.
func (l *look) who() error {
	g := inOrder(api.ErrCPU, api.ErrVector, api.ErrEnds, api.ErrShared)
	for _, s := range l.policy.Subjects {
		g.wrong(s.Pos, api.ErrCPU, s.CPU >= api.MaxCPUs)
		for _, r := range s.Rules {
			// One that does not tell has the vector 0 and the empty name.
			g.wrong(r.Pos, api.ErrVector, r.Vector >= api.Vectors)
			g.wrong(r.Pos, api.ErrEnds, r.To == s.Name)
		}
	}
	for _, c := range l.policy.Channels {
		g.wrong(c.Pos, api.ErrVector, c.Vector >= api.Vectors)
		g.wrong(c.Pos, api.ErrEnds, c.From == c.To)
		g.wrong(c.Pos, api.ErrShared, c.Shared && !l.between(c))
	}
	for _, i := range l.policy.Irqs {
		g.wrong(i.Pos, api.ErrVector, i.Vector >= api.Vectors)
	}
	return g.found()
}

// between tells whether a channel's region is its two subjects' alone, and of
// these the writer's alone to write.
func (l *look) between(c api.Channel) bool {
	var writer, reader bool
	for _, s := range l.policy.Subjects {
		for _, m := range s.Maps {
			switch {
			case m.Of != c.Over:
			case s.Name == c.From:
				writer = true
			case s.Name == c.To && !m.Write:
				reader = true
			default:
				return false
			}
		}
	}
	return writer && reader && !l.reached(c.Over)
}

// reached tells whether a device maps a region.
func (l *look) reached(region string) bool {
	for _, d := range l.policy.Devices {
		for _, m := range d.Maps {
			if m.Of == region {
				return true
			}
		}
	}
	return false
}

// plans is the seventh group: who runs when.
func (l *look) plans() error {
	g := inOrder(api.ErrStart, api.ErrMaster, api.ErrMajor, api.ErrCPU,
		api.ErrBudget, api.ErrName, api.ErrPeriod, api.ErrDemand, api.ErrMany)
	p := l.policy
	g.wrong(p.Pos, api.ErrStart, len(p.Starts) == 0)
	if len(p.Plans) > 1 {
		g.wrong(p.Plans[1].Pos, api.ErrMaster, len(p.Masters) == 0)
	}
	for _, plan := range p.Plans {
		if plan.Major == 0 || plan.Major > api.MaxMajor {
			g.wrong(plan.Pos, api.ErrMajor, true)
			continue
		}
		for _, lane := range plan.Lanes {
			l.lane(g, lane)
			flat(g, plan.Major, lane)
		}
	}
	return g.found()
}

// lane asks whether a lane and its runs have one CPU that there is.
func (l *look) lane(g *group, lane api.Lane) {
	g.wrong(lane.Pos, api.ErrCPU, lane.CPU >= api.MaxCPUs)
	for _, r := range lane.Runs {
		if r.Subject != "" {
			s := l.policy.Subjects[l.known.subjects[r.Subject].number]
			g.wrong(r.Pos, api.ErrCPU, s.CPU != lane.CPU)
		}
	}
}

// flat asks whether a lane can be made a row of slots.
func flat(g *group, major uint64, lane api.Lane) {
	lowest := lane.Pos
	for _, r := range lane.Runs {
		lowest = min(lowest, r.Pos)
	}
	// Of CPUs that there are a plan has four lanes, of others there is no
	// end: these are refused already, and to flatten each would take long.
	if !g.leads(lowest, api.ErrBudget) {
		return
	}
	_, run, why := lanes.Flatten(major, lane)
	switch {
	case errors.Is(why, api.OK):
	case errors.Is(why, api.ErrMany):
		g.wrong(lane.Pos, why, true)
	default:
		g.wrong(lane.Runs[run].Pos, why, true)
	}
}

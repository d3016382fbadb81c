package boot

import (
	"slices"

	"bulkhead/api"
	"bulkhead/bus"
	"bulkhead/span"
)

// look is what is known while an image is looked at.
type look struct {
	image   api.Image
	bus     api.Bus // the machine's
	size    uint64  // how many bytes the image has
	section int     // the one that is looked at
	free    span.Set[uint64]
	next    int // the number of the table that is wanted next
}

// all asks one section behind the other. A section may lean on what those ahead
// of it have asked: free is known behind the first.
func (l *look) all() {
	row := [8]func(){l.grounds, l.subjects, l.ports, l.regions, l.channels, l.irqs, l.plans, l.tables}
	for n, ask := range row {
		l.section = n + 1
		ask()
	}
}

// ask ends the look at the first thing that is wrong, however deep it stands:
// behind it nothing is asked any more.
func (l *look) ask(well bool, why api.Errno, at int) {
	if !well {
		panic(&Refusal{Section: l.section, At: at, Why: why})
	}
}

// most asks whether a list is no longer than it may be.
func (l *look) most(many, most int) { l.ask(many <= most, api.ErrMany, 0) }

// grounds asks for the bus, and then for the header's Base, which means nothing
// until the bus is known.
func (l *look) grounds() {
	_, why := bus.New(l.bus)
	said := l.image.Bus
	l.ask(why == api.OK, api.ErrBus, 0)
	l.ask(slices.Equal(said.Rams, l.bus.Rams) && slices.Equal(said.Devices, l.bus.Devices), api.ErrBus, 0)
	var ram span.Set[uint64]
	for _, r := range l.bus.Rams {
		ram = ram.With(stretch(r.At, r.Size))
	}
	l.section = 0
	l.ask(lies(ram, l.image.Base, l.size), api.ErrBase, 0)
	l.free = ram.Without(stretch(l.image.Base, l.size))
}

// stretch is so many bytes, of which there is one at least.
func stretch(at, size uint64) span.Span[uint64] {
	return span.Span[uint64]{First: at, Last: at + (size - 1)}
}

// lies tells whether so many bytes lie in a set, all of them. Those that would
// leave 64 bits do not: as a span they would be none, which lie in every set.
func lies(set span.Set[uint64], at, size uint64) bool {
	x := stretch(at, size)
	return x.Last >= x.First && set.Covers(x)
}

// among tells whether a number is one of so many things.
func among(n, many int) bool { return n >= 0 && n < many }

func (l *look) isSubject(n int) bool { return among(n, len(l.image.Subjects)) }

func (l *look) isTable(n int) bool { return among(n, len(l.image.Tables)) }

func isVector(n int) bool { return among(n, api.Vectors) }

func (l *look) subjects() {
	l.most(len(l.image.Subjects), api.MaxSubjects)
	for n, s := range l.image.Subjects {
		l.ask(among(s.CPU, api.MaxCPUs), api.ErrCPU, n)
		l.ask(isRule(s), api.ErrField, n)
		l.ask(s.Rule != api.ByVector || l.isSubject(s.To) && s.To != n, api.ErrSubject, n)
		l.ask(isVector(s.Vector), api.ErrVector, n)
		l.ask(l.isTable(s.Root), api.ErrRoot, n)
	}
}

// isRule tells whether a subject's rule is one, and says no more than it means.
func isRule(s api.Tenant) bool {
	switch s.Rule {
	case api.ByVector:
		return true
	case 0, api.ByReset, api.ByStop:
		return s.To == -1 && s.Vector == 0
	}
	return false
}

func (l *look) ports() {
	for n, d := range l.image.Devices {
		l.ask(d.Root == -1 || l.isTable(d.Root), api.ErrRoot, n)
	}
}

func (l *look) regions() {
	l.most(len(l.image.Regions), api.MaxRegions)
	var taken span.Set[uint64]
	for n, g := range l.image.Regions {
		l.ask(g.At%api.Page == 0 && g.Size%api.Page == 0, api.ErrAlign, n)
		l.ask(g.Size != 0, api.ErrSize, n)
		l.ask(lies(l.free, g.At, g.Size), api.ErrOutside, n)
		l.ask(!taken.Touches(stretch(g.At, g.Size)), api.ErrOverlap, n)
		l.ask(isFilled(g), api.ErrFill, n)
		taken = taken.With(stretch(g.At, g.Size))
	}
}

// isFilled tells whether a region may have its first contents.
func isFilled(g api.Ground) bool {
	if g.Fill != 0 && (g.Size > api.MaxFill || g.Text != "") {
		return false
	}
	return uint64(len(g.Text)) <= g.Size
}

func (l *look) channels() {
	l.most(len(l.image.Channels), api.MaxChannels)
	for n, c := range l.image.Channels {
		l.ask(l.isSubject(c.From) && l.isSubject(c.To), api.ErrSubject, n)
		l.ask(c.From != c.To, api.ErrEnds, n)
		l.ask(isEffect(c), api.ErrField, n)
		l.ask(isVector(c.Vector), api.ErrVector, n)
	}
}

// isEffect tells whether a channel's effect is one, and says no more than it
// means.
func isEffect(c api.Link) bool {
	if c.Effect < api.ByVector || c.Effect > api.ByStart {
		return false
	}
	return c.Effect == api.ByVector || c.Vector == 0
}

func (l *look) irqs() {
	l.most(len(l.image.Irqs), api.MaxIrqs)
	for n, q := range l.image.Irqs {
		l.ask(among(q.From, len(l.image.Devices)), api.ErrDevice, n)
		l.ask(l.isSubject(q.To), api.ErrSubject, n)
		l.ask(isVector(q.Vector), api.ErrVector, n)
	}
}

func (l *look) plans() {
	many := len(l.image.Plans)
	l.ask(many > 0, api.ErrPlan, 0)
	l.most(many, api.MaxPlans)
	for n, p := range l.image.Plans {
		l.ask(p.Major >= 1 && p.Major <= api.MaxMajor, api.ErrMajor, n)
		l.ask(len(p.Lanes) == api.MaxCPUs, api.ErrCPU, n)
		for cpu, lane := range p.Lanes {
			l.lane(n, cpu, lane)
		}
	}
	l.ask(l.image.Master == -1 || l.isSubject(l.image.Master), api.ErrMaster, 0)
	l.ask(among(l.image.Start, many), api.ErrStart, 0)
}

// lane asks each thing of all stints of a plan's lane, ahead of the next thing.
func (l *look) lane(plan, cpu int, lane []api.Stint) {
	l.ask(len(lane) <= api.MaxRuns, api.ErrMany, plan)
	l.ask(isBudget(lane, l.image.Plans[plan].Major), api.ErrBudget, plan)
	for _, s := range lane {
		l.ask(s.Subject == -1 || l.isSubject(s.Subject), api.ErrSubject, plan)
	}
	for _, s := range lane {
		l.ask(s.Subject == -1 || l.image.Subjects[s.Subject].CPU == cpu, api.ErrTurn, plan)
	}
}

// isBudget tells whether stints are the one way to write a lane down.
func isBudget(lane []api.Stint, major int) bool {
	ticks := 0
	for n, s := range lane {
		if s.Ticks < 1 || n > 0 && lane[n-1].Subject == s.Subject {
			return false
		}
		ticks += s.Ticks
	}
	return ticks == major
}

package check

import (
	"bulkhead/api"
	"bulkhead/span"
)

// stretch is so many addresses from at on. They may go beyond 64 bits: so no
// end is worked out here.
type stretch struct {
	place    int
	at, size uint64
}

// above tells whether its end is above a bound.
func (s stretch) above(bound uint64) bool { return s.at > bound || s.size > bound-s.at }

// meets tells whether two have an address in common.
func (s stretch) meets(t stretch) bool {
	if t.at < s.at {
		s, t = t, s
	}
	return t.size > 0 && t.at-s.at < s.size
}

// uneven tells whether its beginning or its size is no multiple of a unit.
func (s stretch) uneven(unit uint64) bool { return s.at%unit != 0 || s.size%unit != 0 }

// span is its addresses, of one that has some and ends within 64 bits.
func (s stretch) span() span.Span[uint64] {
	return span.Span[uint64]{First: s.at, Last: s.at + s.size - 1}
}

// overlaps takes on those of a list that meet: of two the later one.
func overlaps(g *group, list []stretch) {
	for i, s := range list {
		for _, t := range list[:i] {
			g.wrong(max(s.place, t.place), api.ErrOverlap, s.meets(t))
		}
	}
}

// purse is what may still be spent.
type purse struct {
	left  uint64
	spent bool
}

// overspent spends more, and tells whether that is more than there was.
func (p *purse) overspent(more uint64) bool {
	p.spent = p.spent || more > p.left
	if !p.spent {
		p.left -= more
	}
	return p.spent
}

// bus is the third group: RAM and windows.
func (l *look) bus() error {
	g := inOrder(api.ErrAlign, api.ErrSize, api.ErrPhys, api.ErrOverlap, api.ErrRam)
	all := l.rams()
	ram := purse{left: api.MaxRam}
	for _, r := range all {
		g.wrong(r.place, api.ErrRam, ram.overspent(r.size))
	}
	for _, d := range l.policy.Devices {
		g.wrong(d.Pos, api.ErrSize, d.Size > api.MaxWindow)
		all = append(all, stretch{place: d.Pos, at: d.At, size: d.Size})
	}
	for _, s := range all {
		g.wrong(s.place, api.ErrAlign, s.uneven(api.Page))
		g.wrong(s.place, api.ErrSize, s.size == 0)
		g.wrong(s.place, api.ErrPhys, s.above(api.MaxPhys))
	}
	overlaps(g, all)
	return g.found()
}

// rams are the spans of RAM, in their order.
func (l *look) rams() []stretch {
	var list []stretch
	for _, r := range l.policy.Rams {
		list = append(list, stretch{place: r.Pos, at: r.At, size: r.Size})
	}
	return list
}

// regions is the fourth group.
func (l *look) regions() error {
	g := inOrder(api.ErrAlign, api.ErrSize, api.ErrOutside, api.ErrOverlap, api.ErrFill)
	ground := l.ground()
	var fixed []stretch
	for _, r := range l.policy.Regions {
		// One that is not fixed has its At at 0, a multiple of all.
		s := stretch{place: r.Pos, at: r.At, size: r.Size}
		g.wrong(r.Pos, api.ErrAlign, s.uneven(unit(r.Big)))
		g.wrong(r.Pos, api.ErrSize, r.Size == 0 || r.Size > api.MaxRam)
		g.wrong(r.Pos, api.ErrFill, r.Fill > 255 || r.Fill != 0 && r.Size > api.MaxFill)
		g.wrong(r.Pos, api.ErrFill, uint64(len(r.Text)) > min(r.Size, api.MaxFill))
		if r.Fixed {
			g.wrong(r.Pos, api.ErrOutside, s.size > 0 && (s.above(api.MaxPhys) || !ground.Covers(s.span())))
			fixed = append(fixed, s)
		}
	}
	overlaps(g, fixed)
	return g.found()
}

// ground is all RAM.
func (l *look) ground() span.Set[uint64] {
	var spans []span.Span[uint64]
	for _, r := range l.rams() {
		spans = append(spans, r.span())
	}
	return span.Of(spans...)
}

// maps is the fifth group: what each subject and each device maps.
func (l *look) maps() error {
	g := inOrder(api.ErrAlign, api.ErrHole, api.ErrOverlap, api.ErrWX, api.ErrMany)
	pages := purse{left: api.MaxMapped}
	for _, maps := range l.spaces() {
		var space []stretch
		for _, m := range maps {
			of, _ := l.object(m.Of)
			s := stretch{place: m.Pos, at: m.At, size: of.size}
			g.wrong(m.Pos, api.ErrAlign, m.At%unit(of.big) != 0)
			g.wrong(m.Pos, api.ErrHole, s.above(api.MaxVirt))
			g.wrong(m.Pos, api.ErrWX, m.Write && m.Exec && !of.wx)
			g.wrong(m.Pos, api.ErrMany, pages.overspent(of.size/api.Page))
			space = append(space, s)
		}
		overlaps(g, space)
	}
	for _, d := range l.policy.Devices {
		for _, m := range d.Maps {
			g.wrong(m.Pos, api.ErrWX, m.Exec)
		}
	}
	return g.found()
}

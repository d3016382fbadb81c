package check

import (
	"bulkhead/api"
	"bulkhead/lanes"
	"bulkhead/span"
)

// image is the eighth group: how large the image is.
func (l *look) image() error {
	g := inOrder(api.ErrLarge)
	g.wrong(l.policy.Pos, api.ErrLarge, l.pages() > api.MaxImage)
	return g.found()
}

// Tables tells how many pages of tables a space has.
func Tables(maps []api.Map, p api.Policy) int { return over(p).tables(maps) }

// tables counts them: the root, and those of the two levels under it, by the
// numbers that their addresses have in common.
func (l *look) tables(maps []api.Map) int {
	var first, second []span.Span[uint64]
	for _, m := range maps {
		of, ok := l.object(m.Of)
		s := stretch{at: m.At, size: of.size}
		if !ok || s.size > api.MaxRam || s.above(api.MaxVirt) {
			return 0
		}
		if s.size == 0 {
			continue
		}
		held := s.span()
		first = append(first, span.Span[uint64]{First: held.First >> 30, Last: held.Last >> 30})
		if !of.big {
			second = append(second, span.Span[uint64]{First: held.First >> 21, Last: held.Last >> 21})
		}
	}
	return 1 + points(first) + points(second)
}

// points counts the numbers that spans hold together.
func points(spans []span.Span[uint64]) int {
	many, _ := span.Of(spans...).Size()
	return int(many)
}

// Pages tells how many pages the image of a policy has.
func Pages(p api.Policy) int { return over(p).pages() }

// pages counts those ahead of the tables, and the tables.
func (l *look) pages() int {
	sum := (l.ahead() + api.Page - 1) / api.Page
	for _, maps := range l.spaces() {
		tables := l.tables(maps)
		if tables == 0 {
			return 0
		}
		sum += tables
	}
	return sum
}

// ahead counts the image's bytes ahead of its tables.
func (l *look) ahead() int {
	const header = 160
	p := l.policy
	sum := header +
		listed(len(p.Rams)+len(p.Devices), 16) +
		listed(len(p.Subjects), 8) +
		listed(len(p.Devices), 8) +
		listed(len(p.Regions), 24) +
		listed(len(p.Channels), 8) +
		listed(len(p.Irqs), 8) +
		listed(len(p.Plans), 8)
	for _, r := range p.Regions {
		sum += (len(r.Text) + 7) / 8 * 8
	}
	for _, plan := range p.Plans {
		for cpu := range uint64(api.MaxCPUs) {
			sum += listed(slots(plan, cpu), 8)
		}
	}
	return sum
}

// listed counts the bytes of a list in an image: what tells how many members
// it has, and these.
func listed(members, size int) int { return 8 + members*size }

// slots counts the slots of a CPU in a plan.
func slots(plan api.Plan, cpu uint64) int {
	for _, lane := range plan.Lanes {
		if lane.CPU == cpu {
			row, _, _ := lanes.Flatten(plan.Major, lane)
			return len(row)
		}
	}
	return 1
}

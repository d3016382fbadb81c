package check

import (
	"math/big"
	"slices"

	"bulkhead/api"
	"bulkhead/lanes"
	"bulkhead/scan"
	"bulkhead/word"
)

// model lists all that is wrong in a group, by the chapter's words, one by
// one and each with each.
type model struct {
	p    api.Policy
	list []instance
}

type instance struct {
	place int
	why   api.Errno
}

// rows are the numbers of each group, in the table's order.
var rows = [][]api.Errno{
	{api.ErrForm, api.ErrTwice, api.ErrName},
	{api.ErrMany},
	{api.ErrAlign, api.ErrSize, api.ErrPhys, api.ErrOverlap, api.ErrRam},
	{api.ErrAlign, api.ErrSize, api.ErrOutside, api.ErrOverlap, api.ErrFill},
	{api.ErrAlign, api.ErrHole, api.ErrOverlap, api.ErrWX, api.ErrMany},
	{api.ErrCPU, api.ErrVector, api.ErrEnds, api.ErrShared},
	{api.ErrStart, api.ErrMaster, api.ErrMajor, api.ErrCPU, api.ErrBudget, api.ErrName, api.ErrPeriod, api.ErrDemand, api.ErrMany},
	{api.ErrLarge},
}

// modelled tells what Check must answer, and in which group (-1: in none).
func modelled(p api.Policy) (group, place int, why api.Errno) {
	m := &model{p: p}
	for i, look := range []func(){m.names, m.many, m.bus, m.regions, m.maps, m.who, m.plans, m.image} {
		look()
		if len(m.list) == 0 {
			continue
		}
		first := m.list[0]
		for _, x := range m.list {
			if x.place < first.place || x.place == first.place && slices.Index(rows[i], x.why) < slices.Index(rows[i], first.why) {
				first = x
			}
		}
		return i, first.place, first.why
	}
	return -1, 0, api.OK
}

func (m *model) add(place int, why api.Errno) { m.list = append(m.list, instance{place, why}) }

// thing is a declaration with a name: the place in its list is its number.
type thing struct {
	pos  int
	name string
}

// twice adds the later one of each two things of one name.
func (m *model) twice(things []thing) {
	for i := range things {
		for k := range i {
			if things[i].name != things[k].name {
				continue
			}
			later := things[i]
			if things[k].pos > later.pos {
				later = things[k]
			}
			m.add(later.pos, api.ErrTwice)
		}
	}
}

func named(things []thing, name string) bool {
	return slices.ContainsFunc(things, func(x thing) bool { return x.name == name })
}

func (m *model) names() {
	p := m.p
	var devices, regions, subjects, channels, irqs, plans, masters, starts []thing
	for _, x := range p.Devices {
		devices = append(devices, thing{x.Pos, x.Name})
	}
	for _, x := range p.Regions {
		regions = append(regions, thing{x.Pos, x.Name})
	}
	for _, x := range p.Subjects {
		subjects = append(subjects, thing{x.Pos, x.Name})
	}
	for _, x := range p.Channels {
		channels = append(channels, thing{x.Pos, x.Name})
	}
	for _, x := range p.Irqs {
		irqs = append(irqs, thing{x.Pos, x.Name})
	}
	for _, x := range p.Plans {
		plans = append(plans, thing{x.Pos, x.Name})
	}
	for _, x := range p.Masters {
		masters = append(masters, thing{x.Pos, ""})
	}
	for _, x := range p.Starts {
		starts = append(starts, thing{x.Pos, ""})
	}
	objects := slices.Concat(devices, regions)
	for _, family := range [][]thing{objects, subjects, channels, irqs, plans} {
		for _, x := range family {
			if !scan.Named(x.name) {
				m.add(x.pos, api.ErrForm)
			}
		}
		m.twice(family)
	}
	m.twice(masters)
	m.twice(starts)
	m.forms()

	lacks := func(place int, things []thing, name string) {
		if !named(things, name) {
			m.add(place, api.ErrName)
		}
	}
	for _, d := range p.Devices {
		for _, x := range d.Maps {
			lacks(x.Pos, regions, x.Of)
		}
	}
	for _, s := range p.Subjects {
		for _, x := range s.Maps {
			lacks(x.Pos, objects, x.Of)
		}
		for _, x := range s.Rules {
			if x.How == api.ByVector {
				lacks(x.Pos, subjects, x.To)
			}
		}
	}
	for _, c := range p.Channels {
		lacks(c.Pos, subjects, c.From)
		lacks(c.Pos, subjects, c.To)
		if c.Shared {
			lacks(c.Pos, regions, c.Over)
		}
	}
	for _, i := range p.Irqs {
		lacks(i.Pos, devices, i.From)
		lacks(i.Pos, subjects, i.To)
	}
	for _, plan := range p.Plans {
		for _, lane := range plan.Lanes {
			for _, x := range lane.Runs {
				if x.Subject != "" {
					lacks(x.Pos, subjects, x.Subject)
				}
			}
		}
	}
	for _, x := range p.Masters {
		lacks(x.Pos, subjects, x.Name)
	}
	for _, x := range p.Starts {
		lacks(x.Pos, plans, x.Name)
	}
}

// forms is the part of the first group that looks at single fields, lanes and rules.
func (m *model) forms() {
	form := func(place int, wrong bool) {
		if wrong {
			m.add(place, api.ErrForm)
		}
	}
	for _, r := range m.p.Regions {
		form(r.Pos, !r.Fixed && r.At != 0)
		form(r.Pos, !r.Texted && r.Text != "")
		form(r.Pos, r.Texted && r.Fill != 0)
	}
	for _, s := range m.p.Subjects {
		var rules []thing
		for _, r := range s.Rules {
			rules = append(rules, thing{pos: r.Pos})
			switch r.How {
			case api.ByVector:
			case api.ByReset, api.ByStop:
				form(r.Pos, r.To != "" || r.Vector != 0)
			default:
				form(r.Pos, true)
			}
		}
		m.twice(rules)
	}
	for _, c := range m.p.Channels {
		switch c.How {
		case api.ByVector:
		case api.ByReset, api.ByStop, api.ByStart:
			form(c.Pos, c.Vector != 0)
		default:
			form(c.Pos, true)
		}
		form(c.Pos, !c.Shared && c.Over != "")
	}
	for _, plan := range m.p.Plans {
		var lanes []thing
		for _, l := range plan.Lanes {
			lanes = append(lanes, thing{l.Pos, string(scan.Number(l.CPU))})
			for _, r := range l.Runs {
				form(r.Pos, !l.Needs && r.Period != 0)
			}
		}
		m.twice(lanes)
	}
}

func (m *model) many() {
	p := m.p
	for i, x := range p.Rams {
		if i == 8 {
			m.add(x.Pos, api.ErrMany)
		}
	}
	for i, x := range p.Devices {
		if i == 32 {
			m.add(x.Pos, api.ErrMany)
		}
		m.manyMaps(x.Maps)
	}
	for i, x := range p.Regions {
		if i == 256 {
			m.add(x.Pos, api.ErrMany)
		}
	}
	for i, x := range p.Subjects {
		if i == 64 {
			m.add(x.Pos, api.ErrMany)
		}
		m.manyMaps(x.Maps)
	}
	for i, x := range p.Channels {
		if i == 256 {
			m.add(x.Pos, api.ErrMany)
		}
	}
	for i, x := range p.Irqs {
		if i == 64 {
			m.add(x.Pos, api.ErrMany)
		}
	}
	for i, x := range p.Plans {
		if i == 16 {
			m.add(x.Pos, api.ErrMany)
		}
	}
}

func (m *model) manyMaps(maps []api.Map) {
	for i, x := range maps {
		if i == 64 {
			m.add(x.Pos, api.ErrMany)
		}
	}
}

// stake is addresses whose sums can't wrap: from first up to and without end.
type stake struct {
	pos        int
	first, end *big.Int
}

func staked(pos int, at, size uint64) stake {
	first := new(big.Int).SetUint64(at)
	return stake{pos, first, new(big.Int).Add(first, new(big.Int).SetUint64(size))}
}

func (s stake) above(power uint) bool {
	return s.end.Cmp(new(big.Int).Lsh(big.NewInt(1), power)) > 0
}

// overlaps adds the later one of each two that have an address in common.
func (m *model) overlaps(list []stake) {
	for i, a := range list {
		for _, b := range list[:i] {
			first, end := a.first, a.end
			if b.first.Cmp(first) > 0 {
				first = b.first
			}
			if b.end.Cmp(end) < 0 {
				end = b.end
			}
			if first.Cmp(end) >= 0 {
				continue
			}
			later := a
			if b.pos > a.pos {
				later = b
			}
			m.add(later.pos, api.ErrOverlap)
		}
	}
}

func (m *model) bus() {
	sum := new(big.Int)
	var all []stake
	part := func(pos int, at, size uint64) {
		s := staked(pos, at, size)
		if at%4096 != 0 || size%4096 != 0 {
			m.add(pos, api.ErrAlign)
		}
		if size == 0 {
			m.add(pos, api.ErrSize)
		}
		if s.above(32) {
			m.add(pos, api.ErrPhys)
		}
		all = append(all, s)
	}
	for _, r := range m.p.Rams {
		part(r.Pos, r.At, r.Size)
		sum.Add(sum, new(big.Int).SetUint64(r.Size))
		if sum.Cmp(big.NewInt(1<<26)) > 0 {
			m.add(r.Pos, api.ErrRam)
		}
	}
	for _, d := range m.p.Devices {
		part(d.Pos, d.At, d.Size)
		if d.Size > 1<<20 {
			m.add(d.Pos, api.ErrSize)
		}
	}
	m.overlaps(all)
}

// inRam tells whether all addresses lie in rams, from one ram on to the next.
func (m *model) inRam(s stake) bool {
	at := s.first
	for at.Cmp(s.end) < 0 {
		i := slices.IndexFunc(m.p.Rams, func(r api.Ram) bool {
			ram := staked(0, r.At, r.Size)
			return ram.first.Cmp(at) <= 0 && at.Cmp(ram.end) < 0
		})
		if i < 0 {
			return false
		}
		at = staked(0, m.p.Rams[i].At, m.p.Rams[i].Size).end
	}
	return true
}

func (m *model) regions() {
	var fixed []stake
	for _, r := range m.p.Regions {
		unit := uint64(4096)
		if r.Big {
			unit = 1 << 21
		}
		if r.Size%unit != 0 || r.Fixed && r.At%unit != 0 {
			m.add(r.Pos, api.ErrAlign)
		}
		if r.Size == 0 || r.Size > 1<<26 {
			m.add(r.Pos, api.ErrSize)
		}
		if r.Fixed {
			s := staked(r.Pos, r.At, r.Size)
			if !m.inRam(s) {
				m.add(r.Pos, api.ErrOutside)
			}
			fixed = append(fixed, s)
		}
		if r.Fill > 255 || r.Fill != 0 && r.Size > 1<<20 {
			m.add(r.Pos, api.ErrFill)
		}
		if uint64(len(r.Text)) > r.Size || len(r.Text) > 1<<20 {
			m.add(r.Pos, api.ErrFill)
		}
	}
	m.overlaps(fixed)
}

// object tells an object's size, and of a region the region.
func (m *model) object(name string) (size uint64, region api.Region, ok bool) {
	for _, r := range m.p.Regions {
		if r.Name == name {
			return r.Size, r, true
		}
	}
	for _, d := range m.p.Devices {
		if d.Name == name {
			return d.Size, api.Region{}, true
		}
	}
	return 0, api.Region{}, false
}

func (m *model) maps() {
	pages := uint64(0)
	space := func(maps []api.Map, device bool) {
		var all []stake
		for _, x := range maps {
			size, region, _ := m.object(x.Of)
			s := staked(x.Pos, x.At, size)
			all = append(all, s)
			if x.At%4096 != 0 || region.Big && x.At%(1<<21) != 0 {
				m.add(x.Pos, api.ErrAlign)
			}
			if s.above(39) {
				m.add(x.Pos, api.ErrHole)
			}
			if x.Write && x.Exec && !region.Wx {
				m.add(x.Pos, api.ErrWX)
			}
			if device && x.Exec {
				m.add(x.Pos, api.ErrWX)
			}
			pages += size / 4096
			if pages > 1<<17 {
				m.add(x.Pos, api.ErrMany)
			}
		}
		m.overlaps(all)
	}
	for _, s := range m.p.Subjects {
		space(s.Maps, false)
	}
	for _, d := range m.p.Devices {
		space(d.Maps, true)
	}
}

func (m *model) who() {
	for _, s := range m.p.Subjects {
		if s.CPU > 3 {
			m.add(s.Pos, api.ErrCPU)
		}
		for _, r := range s.Rules {
			if r.How == api.ByVector && r.Vector > 63 {
				m.add(r.Pos, api.ErrVector)
			}
			if r.How == api.ByVector && r.To == s.Name {
				m.add(r.Pos, api.ErrEnds)
			}
		}
	}
	for _, i := range m.p.Irqs {
		if i.Vector > 63 {
			m.add(i.Pos, api.ErrVector)
		}
	}
	for _, c := range m.p.Channels {
		if c.How == api.ByVector && c.Vector > 63 {
			m.add(c.Pos, api.ErrVector)
		}
		if c.From == c.To {
			m.add(c.Pos, api.ErrEnds)
		}
		if !c.Shared {
			continue
		}
		mappers, writers := m.mappers(c.Over)
		if !slices.Contains(mappers, "subject "+c.From) || !slices.Contains(mappers, "subject "+c.To) {
			m.add(c.Pos, api.ErrShared)
		}
		for _, x := range mappers {
			if x != "subject "+c.From && x != "subject "+c.To {
				m.add(c.Pos, api.ErrShared)
			}
		}
		for _, x := range writers {
			if x != "subject "+c.From {
				m.add(c.Pos, api.ErrShared)
			}
		}
	}
}

// mappers are those who map a region, and of these those who do it for writing.
func (m *model) mappers(region string) (all, writers []string) {
	for _, s := range m.p.Subjects {
		for _, x := range s.Maps {
			if x.Of == region {
				all = append(all, "subject "+s.Name)
				if x.Write {
					writers = append(writers, "subject "+s.Name)
				}
			}
		}
	}
	for _, d := range m.p.Devices {
		for _, x := range d.Maps {
			if x.Of == region {
				all = append(all, "device "+d.Name)
			}
		}
	}
	return all, writers
}

func (m *model) plans() {
	p := m.p
	if len(p.Starts) == 0 {
		m.add(p.Pos, api.ErrStart)
	}
	if len(p.Plans) >= 2 && len(p.Masters) == 0 {
		m.add(p.Plans[1].Pos, api.ErrMaster)
	}
	for _, plan := range p.Plans {
		if plan.Major < 1 || plan.Major > 65536 {
			m.add(plan.Pos, api.ErrMajor)
			continue
		}
		for _, lane := range plan.Lanes {
			if lane.CPU > 3 {
				m.add(lane.Pos, api.ErrCPU)
			}
			for _, r := range lane.Runs {
				for _, s := range p.Subjects {
					if s.Name == r.Subject && s.CPU != lane.CPU {
						m.add(r.Pos, api.ErrCPU)
					}
				}
			}
			_, run, why := lanes.Flatten(plan.Major, lane)
			if why == api.ErrMany {
				m.add(lane.Pos, why)
			} else if why != api.OK {
				m.add(lane.Runs[run].Pos, why)
			}
		}
	}
}

func (m *model) image() {
	if m.pages() > 1024 {
		m.add(m.p.Pos, api.ErrLarge)
	}
}

// tables goes through the addresses page by page.
func (m *model) tables(maps []api.Map) int {
	high, low := map[uint64]int{}, map[uint64]int{}
	for _, x := range maps {
		size, region, ok := m.object(x.Of)
		if !ok || size > 1<<26 || staked(0, x.At, size).above(39) {
			return 0
		}
		hold := func(v uint64) {
			high[v>>30]++
			if !region.Big {
				low[v>>21]++
			}
		}
		for k := uint64(0); k < size; k += 4096 {
			hold(x.At + k)
		}
		if size > 0 {
			hold(x.At + size - 1)
		}
	}
	return 1 + len(high) + len(low)
}

// pages lays the bytes ahead of the tables down as chapter 13 says, zeros for
// all numbers.
func (m *model) pages() int {
	w := word.NewWriter()
	longs := func(n int) {
		for range n {
			w.Long(0)
		}
	}
	w.Bytes(make([]byte, 160))
	longs(1 + 2*len(m.p.Rams) + 2*len(m.p.Devices))
	longs(1 + len(m.p.Subjects))
	longs(1 + len(m.p.Devices))
	longs(1)
	for _, r := range m.p.Regions {
		longs(3)
		w.Bytes([]byte(r.Text))
		w.Pad(8)
	}
	longs(1 + len(m.p.Channels))
	longs(1 + len(m.p.Irqs))
	longs(1)
	for _, plan := range m.p.Plans {
		longs(1)
		for cpu := range uint64(4) {
			longs(1 + m.slots(plan, cpu))
		}
	}
	w.Pad(4096)
	sum := w.Len() / 4096
	add := func(maps []api.Map) bool {
		n := m.tables(maps)
		sum += n
		return n > 0
	}
	for _, s := range m.p.Subjects {
		if !add(s.Maps) {
			return 0
		}
	}
	for _, d := range m.p.Devices {
		if len(d.Maps) > 0 && !add(d.Maps) {
			return 0
		}
	}
	return sum
}

func (m *model) slots(plan api.Plan, cpu uint64) int {
	for _, l := range plan.Lanes {
		if l.CPU == cpu {
			slots, _, why := lanes.Flatten(plan.Major, l)
			if why != api.OK {
				return 0
			}
			return len(slots)
		}
	}
	return 1
}

package boot

import (
	"math/big"

	"bulkhead/api"
	"bulkhead/bundle"
	"bulkhead/bus"
)

// What a page is: one of RAM, one of the image, or one of the windows, from
// window 0 on.
const (
	nothing = -3 + iota
	ram
	own
	window
)

// model holds an image against the chapter's words: pages one by one, all that
// is wrong in the order of the table, the tables as rows of digits.
type model struct {
	bus   api.Bus
	image api.Image
	pages int
	wrong []Refusal
	next  int
}

// verdict is what Check must answer of bytes.
func verdict(b api.Bus, raw []byte) Refusal {
	i, where, why := bundle.Decode(raw)
	if why != api.OK {
		return Refusal{where.Section, where.At, why}
	}
	m := &model{bus: b, image: i, pages: len(raw) / 4096}
	for _, part := range []func(*model){(*model).header, (*model).subjects, (*model).regions, (*model).links, (*model).plans, (*model).tables} {
		part(m)
		if len(m.wrong) > 0 {
			return m.wrong[0]
		}
	}
	return Refusal{}
}

func (m *model) no(wrong bool, section, at int, why api.Errno) {
	if wrong {
		m.wrong = append(m.wrong, Refusal{section, at, why})
	}
}

func (m *model) many(wrong bool, section int) { m.no(wrong, section, 0, api.ErrMany) }

// within tells whether the page with this number lies in a range.
func within(r api.Range, page uint64) bool {
	return page >= r.At/4096 && page < r.At/4096+r.Size/4096
}

// page tells what the page with this number is.
func (m *model) page(n uint64) int {
	first := m.image.Base / 4096
	for _, r := range m.bus.Rams {
		if within(r, n) && n >= first && n < first+uint64(m.pages) {
			return own
		}
		if within(r, n) {
			return ram
		}
	}
	for k, r := range m.bus.Devices {
		if within(r, n) {
			return window + k
		}
	}
	return nothing
}

// all tells what all bytes of a row of pages are; nothing, if they are not one
// thing.
func (m *model) all(at, size uint64) int {
	end := new(big.Int).Add(new(big.Int).SetUint64(at), new(big.Int).SetUint64(size))
	if end.Cmp(big.NewInt(1<<32)) > 0 {
		return nothing
	}
	kind := m.page(at / 4096)
	for n := at / 4096; n < end.Uint64()/4096; n++ {
		if m.page(n) != kind {
			return nothing
		}
	}
	return kind
}

// touches tells whether two regions have a byte in common.
func touches(a, b api.Ground) bool {
	for n := a.At / 4096; n < a.At/4096+a.Size/4096; n++ {
		if within(api.Range{At: b.At, Size: b.Size}, n) {
			return true
		}
	}
	return false
}

func (m *model) header() {
	_, why := bus.New(m.bus)
	if why != api.OK || told(m.bus) != told(m.image.Bus) {
		m.no(true, 1, 0, api.ErrBus)
		return
	}
	base, end := m.image.Base, m.image.Base+4096*uint64(m.pages)
	outside := end < base || end > 1<<32
	for n := base / 4096; !outside && n < end/4096; n++ {
		outside = m.page(n) != own
	}
	m.no(outside, 0, 0, api.ErrBase)
}

func (m *model) subjects() {
	list, tables := m.image.Subjects, len(m.image.Tables)
	m.many(len(list) > 64, 2)
	for n, s := range list {
		m.no(s.CPU < 0 || s.CPU > 3, 2, n, api.ErrCPU)
		m.no(s.Rule < 0 || s.Rule > 3 || s.Rule != 1 && (s.To != -1 || s.Vector != 0), 2, n, api.ErrField)
		m.no(s.Rule == 1 && (s.To < 0 || s.To >= len(list) || s.To == n), 2, n, api.ErrSubject)
		m.no(s.Vector < 0 || s.Vector > 63, 2, n, api.ErrVector)
		m.no(s.Root < 0 || s.Root >= tables, 2, n, api.ErrRoot)
	}
	for n, d := range m.image.Devices {
		m.no(d.Root < -1 || d.Root >= tables, 3, n, api.ErrRoot)
	}
}

func (m *model) regions() {
	list := m.image.Regions
	m.many(len(list) > 256, 4)
	for n, g := range list {
		if m.no(g.At%4096 != 0 || g.Size%4096 != 0, 4, n, api.ErrAlign); len(m.wrong) > 0 {
			return
		}
		m.no(g.Size == 0, 4, n, api.ErrSize)
		if m.no(m.all(g.At, g.Size) != ram, 4, n, api.ErrOutside); len(m.wrong) > 0 {
			return
		}
		for _, other := range list[:n] {
			m.no(touches(g, other), 4, n, api.ErrOverlap)
		}
		m.no(uint64(len(g.Text)) > g.Size || g.Fill != 0 && g.Size > 1<<20 || g.Fill != 0 && len(g.Text) > 0, 4, n, api.ErrFill)
	}
}

func (m *model) links() {
	subject := func(n int) bool { return n >= 0 && n < len(m.image.Subjects) }
	m.many(len(m.image.Channels) > 256, 5)
	for n, c := range m.image.Channels {
		m.no(!subject(c.From) || !subject(c.To), 5, n, api.ErrSubject)
		m.no(c.From == c.To, 5, n, api.ErrEnds)
		m.no(c.Effect < 1 || c.Effect > 4 || c.Effect != 1 && c.Vector != 0, 5, n, api.ErrField)
		m.no(c.Vector > 63, 5, n, api.ErrVector)
	}
	m.many(len(m.image.Irqs) > 64, 6)
	for n, q := range m.image.Irqs {
		m.no(q.From < 0 || q.From >= len(m.bus.Devices), 6, n, api.ErrDevice)
		m.no(!subject(q.To), 6, n, api.ErrSubject)
		m.no(q.Vector > 63, 6, n, api.ErrVector)
	}
}

func (m *model) plans() {
	m.no(len(m.image.Plans) == 0, 7, 0, api.ErrPlan)
	m.many(len(m.image.Plans) > 16, 7)
	for n, p := range m.image.Plans {
		m.no(p.Major < 1 || p.Major > 65536, 7, n, api.ErrMajor)
		m.no(len(p.Lanes) != 4, 7, n, api.ErrCPU)
		for cpu, lane := range p.Lanes {
			m.no(len(lane) > 4096, 7, n, api.ErrMany)
			m.lane(n, cpu, p.Major, lane)
		}
	}
	m.no(m.image.Master < -1 || m.image.Master >= len(m.image.Subjects), 7, 0, api.ErrMaster)
	m.no(m.image.Start >= len(m.image.Plans), 7, 0, api.ErrStart)
}

func (m *model) lane(plan, cpu, major int, lane []api.Stint) {
	none, other, ticks, before := false, false, 0, -2
	for _, s := range lane {
		m.no(s.Ticks < 1 || s.Subject == before, 7, plan, api.ErrBudget)
		before = s.Subject
		ticks += s.Ticks
		if s.Subject >= len(m.image.Subjects) {
			none = true
		} else if s.Subject >= 0 && m.image.Subjects[s.Subject].CPU != cpu {
			other = true
		}
	}
	m.no(ticks != major, 7, plan, api.ErrBudget)
	m.no(none, 7, plan, api.ErrSubject)
	m.no(other, 7, plan, api.ErrTurn)
}

// tables goes through the roots, each by one counter of three digits: which
// entry of each level is looked at.
func (m *model) tables() {
	var roots []int
	for _, s := range m.image.Subjects {
		roots = append(roots, s.Root)
	}
	for _, d := range m.image.Devices {
		if d.Root >= 0 {
			roots = append(roots, d.Root)
		}
	}
	for _, root := range roots {
		if m.no(root != m.next, 8, root, api.ErrRoot); len(m.wrong) == 0 {
			m.tree()
		}
		if len(m.wrong) > 0 {
			return
		}
	}
	m.no(m.next < len(m.image.Tables), 8, m.next, api.ErrRoot)
}

func (m *model) tree() {
	way, digits := []int{m.next}, []int{0}
	m.next++
	for len(way) > 0 {
		level := len(way) - 1
		table, digit := way[level], digits[level]
		if digit == 512 {
			way, digits = way[:level], digits[:level]
			continue
		}
		digits[level]++
		bits := m.image.Tables[table][digit]
		if bits == 0 {
			continue
		}
		at := bits & 0xfffff000
		flags := bits - at
		switch deeper := level == 0 || level == 1 && flags&8 == 0; {
		case flags&1 == 0, flags > 15, deeper && flags != 1, level == 2 && flags&8 != 0, level == 1 && !deeper && at%(1<<21) != 0:
			m.no(true, 8, table, api.ErrEntry)
		case deeper && (m.next >= len(m.image.Tables) || at != m.image.Base+4096*uint64(m.pages-len(m.image.Tables)+m.next)):
			m.no(true, 8, table, api.ErrEntry)
		case deeper:
			way, digits = append(way, m.next), append(digits, 0)
			m.next++
		default:
			size := uint64(4096)
			if level == 1 {
				size = 1 << 21
			}
			kind := m.all(at, size)
			m.no(kind == nothing || kind == own, 8, table, api.ErrLeaf)
		}
		if len(m.wrong) > 0 {
			return
		}
	}
}

// first is what First must answer, byte by byte.
func first(i api.Image, page uint64) ([]byte, bool) {
	if page%4096 != 0 {
		return nil, false
	}
	for _, g := range i.Regions {
		var out []byte
		for n := range uint64(4096) {
			at := page + n
			if at < g.At || at-g.At >= g.Size {
				break
			}
			if behind := at - g.At; behind < uint64(len(g.Text)) {
				out = append(out, g.Text[behind])
			} else {
				out = append(out, g.Fill)
			}
		}
		if len(out) == 4096 {
			return out, true
		}
	}
	return nil, false
}

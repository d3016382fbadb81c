package kernel

import (
	"slices"

	"bulkhead/api"
	"bulkhead/bus"
	"bulkhead/forge"
	"bulkhead/lanes"
)

// sheet is a page of memory: of a region or a window, by its name, or of the
// machine; and its number there.
type sheet struct {
	of     string
	number uint64
}

// view is what a space shows at one page of addresses.
type view struct {
	sheet
	write, exec bool
}

type being struct {
	cpu              int
	stopped, asleep  bool
	bits             map[int]bool
	ticks            uint64 // of its timer; 0: off
	rings            int
	rule, to, vector int
	views            map[uint64]view
}

type gear struct {
	window []sheet
	views  map[uint64]view
}

type wire struct {
	api.Link
	masked, latched bool
}

// world is the logical system, word by word: no tables, no sums that could be
// wrong, a tick at a time.
type world struct {
	held     map[sheet]*[4096]byte
	first    map[sheet][]byte // what a reset makes new
	old      func(sheet) []byte
	beings   []being
	gears    []gear
	channels []api.Link
	irqs     []wire
	majors   []int
	turns    func(plan, cpu, offset int) (int, int)
	master   int
	active   int
	asked    int
	offset   int
	clock    uint64
}

func (w *world) bytes(s sheet) *[4096]byte {
	p, ok := w.held[s]
	if !ok {
		p = new([4096]byte)
		if f, ok := w.first[s]; ok {
			copy(p[:], f)
		} else if w.old != nil {
			copy(p[:], w.old(s))
		}
		w.held[s] = p
	}
	return p
}

func (w *world) current(cpu int) int {
	if cpu < 0 || cpu > 3 {
		return -1
	}
	who, _ := w.turns(w.active, cpu, w.offset)
	return who
}

func (w *world) set(who, vector int) {
	w.beings[who].bits[vector] = true
	w.beings[who].asleep = false
}

func (w *world) reset(who int) {
	b := &w.beings[who]
	for _, v := range b.views {
		if f, ok := w.first[v.sheet]; ok && v.write {
			copy(w.bytes(v.sheet)[:], f)
		}
	}
	b.bits, b.ticks, b.rings, b.asleep = map[int]bool{}, 0, 0, false
}

func (w *world) deliver(q *wire) {
	w.set(q.To, q.Vector)
	if q.Masked {
		q.masked = true
	}
}

func no(why api.Errno) api.Result { return api.Result{Why: why} }

func isWidth(n int) bool { return n == 1 || n == 2 || n == 4 || n == 8 }

func (w *world) step(s api.Step) api.Result {
	switch s.Kind {
	case api.Tick:
		w.tick(s.Value)
		return api.Result{}
	case api.Write:
		return w.write(s)
	case api.Dma:
		if s.Number < 0 || s.Number >= len(w.gears) {
			return no(api.ErrDevice)
		}
		return w.access(w.gears[s.Number].views, s)
	case api.Irq:
		if s.Number < 0 || s.Number >= len(w.irqs) {
			return no(api.ErrIrq)
		}
		if q := &w.irqs[s.Number]; q.masked {
			q.latched = true
		} else {
			w.deliver(q)
		}
		return api.Result{}
	case api.Access, api.Signal, api.Poll, api.Wait, api.Arm, api.Status, api.Switch, api.Unmask:
		return w.call(s)
	}
	return no(api.ErrArg)
}

func (w *world) write(s api.Step) api.Result {
	if s.Number < 0 || s.Number >= len(w.gears) {
		return no(api.ErrDevice)
	}
	if !isWidth(s.Width) {
		return no(api.ErrWidth)
	}
	window := w.gears[s.Number].window
	for i := range uint64(s.Width) {
		if at := s.At + i; at < s.At || at >= 4096*uint64(len(window)) {
			return no(api.ErrBound)
		}
	}
	for i := range uint64(s.Width) {
		at := s.At + i
		w.bytes(window[at/4096])[at%4096] = byte(s.Value >> (8 * i))
	}
	return api.Result{}
}

func (w *world) access(views map[uint64]view, s api.Step) api.Result {
	if s.Access != api.Load && s.Access != api.Store && s.Access != api.Fetch {
		return api.Result{Why: api.ErrArg, At: s.At}
	}
	if !isWidth(s.Width) {
		return api.Result{Why: api.ErrWidth, At: s.At}
	}
	for i := range uint64(s.Width) {
		at := s.At + i
		v, ok := views[at/4096]
		switch {
		case at >= 1<<39:
			return api.Result{Why: api.ErrHole, At: at}
		case !ok:
			return api.Result{Why: api.ErrAbsent, At: at}
		case s.Access == api.Store && !v.write:
			return api.Result{Why: api.ErrWrite, At: at}
		case s.Access == api.Fetch && !v.exec:
			return api.Result{Why: api.ErrExec, At: at}
		}
	}
	var r api.Result
	for i := range uint64(s.Width) {
		b := &w.bytes(views[(s.At+i)/4096].sheet)[(s.At+i)%4096]
		if s.Access == api.Store {
			*b = byte(s.Value >> (8 * i))
		} else {
			r.Value |= uint64(*b) << (8 * i)
		}
	}
	return r
}

// call is a step of a subject.
func (w *world) call(s api.Step) api.Result {
	if s.Subject < 0 || s.Subject >= len(w.beings) {
		return no(api.ErrSubject)
	}
	b := &w.beings[s.Subject]
	switch {
	case w.current(b.cpu) != s.Subject:
		return no(api.ErrTurn)
	case b.stopped:
		return no(api.ErrStopped)
	case b.asleep:
		return no(api.ErrAsleep)
	}
	switch s.Kind {
	case api.Access:
		r := w.access(b.views, s)
		if r.Why != api.OK && r.Why != api.ErrArg && r.Why != api.ErrWidth {
			w.fault(s.Subject)
		}
		return r
	case api.Signal:
		return w.signal(s)
	case api.Poll:
		if s.Value > 63 {
			return no(api.ErrVector)
		}
		was := b.bits[int(s.Value)]
		delete(b.bits, int(s.Value))
		if was {
			return api.Result{Value: 1}
		}
		return api.Result{}
	case api.Wait:
		var r api.Result
		for v := range b.bits {
			r.Value |= 1 << v
		}
		if len(b.bits) == 0 {
			b.asleep = true
		}
		return r
	case api.Arm:
		if s.Value > 63 {
			return no(api.ErrVector)
		}
		b.ticks, b.rings = s.At, int(s.Value)
		return api.Result{}
	case api.Status:
		_, left := w.turns(w.active, b.cpu, w.offset)
		return api.Result{Value: uint64(w.active), At: uint64(left), Clock: w.clock}
	case api.Switch:
		if s.Subject != w.master {
			return no(api.ErrMaster)
		}
		if s.Number < 0 || s.Number >= len(w.majors) {
			return no(api.ErrPlan)
		}
		w.asked = s.Number
		return api.Result{}
	}
	return w.unmask(s)
}

func (w *world) fault(who int) {
	switch b := &w.beings[who]; b.rule {
	case api.ByStop:
		b.stopped = true
	case api.ByReset:
		w.reset(who)
	case api.ByVector:
		w.set(b.to, b.vector)
	}
}

func (w *world) signal(s api.Step) api.Result {
	if s.Number < 0 || s.Number >= len(w.channels) || w.channels[s.Number].From != s.Subject {
		return no(api.ErrChannel)
	}
	c := w.channels[s.Number]
	switch c.Effect {
	case api.ByVector:
		w.set(c.To, c.Vector)
	case api.ByReset:
		w.reset(c.To)
	case api.ByStop:
		w.beings[c.To].stopped = true
	case api.ByStart:
		w.beings[c.To].stopped, w.beings[c.To].asleep = false, false
	}
	return api.Result{}
}

func (w *world) unmask(s api.Step) api.Result {
	if s.Number < 0 || s.Number >= len(w.irqs) || w.irqs[s.Number].To != s.Subject {
		return no(api.ErrIrq)
	}
	q := &w.irqs[s.Number]
	q.masked = false
	if q.latched {
		q.latched = false
		w.deliver(q)
	}
	return api.Result{}
}

// tick is so many single ticks; where there are very many, rounds in which
// nothing happens but that timers run are gone over at once.
func (w *world) tick(n uint64) {
	for ; n > 0; n-- {
		if major := uint64(w.majors[w.active]); w.offset == 0 && w.active == w.asked && n > 1<<18 {
			rounds := n/major - 1
			w.age(rounds * major)
			w.clock += rounds * major
			n -= rounds * major
		}
		w.clock++
		w.age(1)
		w.offset++
		if w.offset == w.majors[w.active] {
			w.offset, w.active = 0, w.asked
		}
	}
}

func (w *world) age(n uint64) {
	for i := range w.beings {
		switch b := &w.beings[i]; {
		case b.ticks > n:
			b.ticks -= n
		case b.ticks > 0:
			b.ticks = 0
			w.set(i, b.rings)
		}
	}
}

// meaning is the world that a policy means, without any image of it.
func meaning(p api.Policy) *world {
	w := &world{held: map[sheet]*[4096]byte{}, first: map[sheet][]byte{}, master: -1}
	sizes := map[string]uint64{}
	for _, r := range p.Regions {
		sizes[r.Name] = r.Size
		for n := range r.Size / 4096 {
			page := make([]byte, 4096)
			for i := range page {
				if at := 4096*int(n) + i; at < len(r.Text) {
					page[i] = r.Text[at]
				} else if !r.Texted {
					page[i] = byte(r.Fill)
				}
			}
			w.first[sheet{r.Name, n}] = page
		}
	}
	for _, d := range p.Devices {
		sizes[d.Name] = d.Size
	}
	views := func(maps []api.Map) map[uint64]view {
		out := map[uint64]view{}
		for _, m := range maps {
			for n := range sizes[m.Of] / 4096 {
				out[m.At/4096+n] = view{sheet{m.Of, n}, m.Write, m.Exec}
			}
		}
		return out
	}
	named := func(name string) int {
		return slices.IndexFunc(p.Subjects, func(s api.Subject) bool { return s.Name == name })
	}
	for _, d := range p.Devices {
		g := gear{views: views(d.Maps)}
		for n := range d.Size / 4096 {
			g.window = append(g.window, sheet{d.Name, n})
		}
		w.gears = append(w.gears, g)
	}
	for _, s := range p.Subjects {
		b := being{cpu: int(s.CPU), stopped: s.Stopped, bits: map[int]bool{}, views: views(s.Maps)}
		for _, r := range s.Rules {
			b.rule, b.to, b.vector = r.How, named(r.To), int(r.Vector)
		}
		w.beings = append(w.beings, b)
	}
	for _, c := range p.Channels {
		w.channels = append(w.channels, api.Link{From: named(c.From), To: named(c.To), Effect: c.How, Vector: int(c.Vector)})
	}
	for _, q := range p.Irqs {
		from := slices.IndexFunc(p.Devices, func(d api.Device) bool { return d.Name == q.From })
		w.irqs = append(w.irqs, wire{Link: api.Link{From: from, To: named(q.To), Vector: int(q.Vector), Masked: q.Masked}})
	}
	w.timed(p, named)
	return w
}

// timed gives a policy's world its plans.
func (w *world) timed(p api.Policy, named func(string) int) {
	rows := make([][4][]api.Slot, len(p.Plans))
	for n, plan := range p.Plans {
		w.majors = append(w.majors, int(plan.Major))
		for _, l := range plan.Lanes {
			rows[n][l.CPU], _, _ = lanes.Flatten(plan.Major, l)
		}
		if plan.Name == p.Starts[0].Name {
			w.active, w.asked = n, n
		}
	}
	w.turns = func(plan, cpu, offset int) (int, int) {
		name, left := lanes.Sched(rows[plan][cpu], offset)
		if name == "" {
			return -1, left
		}
		return named(name), left
	}
	for _, m := range p.Masters {
		w.master = named(m.Name)
	}
}

// said is the world that an image says, on a machine that held these bytes.
func said(i api.Image, pages int, old *bus.Machine) *world {
	w := &world{held: map[sheet]*[4096]byte{}, first: map[sheet][]byte{}, master: i.Master, active: i.Start, asked: i.Start, channels: i.Channels}
	w.old = func(s sheet) []byte {
		b, _ := old.Read(4096*s.number, 4096)
		return b
	}
	for _, g := range i.Regions {
		all := slices.Concat([]byte(g.Text), slices.Repeat([]byte{g.Fill}, int(g.Size)-len(g.Text)))
		for n := range g.Size / 4096 {
			w.first[sheet{"", g.At/4096 + n}] = all[4096*n:][:4096]
		}
	}
	tables := i.Base/4096 + uint64(pages-len(i.Tables))
	for _, s := range i.Subjects {
		w.beings = append(w.beings, being{cpu: s.CPU, stopped: s.Stopped, bits: map[int]bool{}, rule: s.Rule, to: s.To, vector: s.Vector, views: mapped(i, tables, s.Root)})
	}
	for n, d := range i.Devices {
		g := gear{}
		for k := range i.Bus.Devices[n].Size / 4096 {
			g.window = append(g.window, sheet{"", i.Bus.Devices[n].At/4096 + k})
		}
		if d.Root >= 0 {
			g.views = mapped(i, tables, d.Root)
		}
		w.gears = append(w.gears, g)
	}
	for _, q := range i.Irqs {
		w.irqs = append(w.irqs, wire{Link: q})
	}
	for _, p := range i.Plans {
		w.majors = append(w.majors, p.Major)
	}
	w.turns = func(plan, cpu, offset int) (int, int) {
		for _, s := range i.Plans[plan].Lanes[cpu] {
			if offset < s.Ticks {
				return s.Subject, s.Ticks - offset
			}
			offset -= s.Ticks
		}
		return -1, 0
	}
	return w
}

// mapped is what a root's tables map, the first of which lies at this page.
func mapped(i api.Image, first uint64, root int) map[uint64]view {
	out := map[uint64]view{}
	table := func(e uint64) *api.Table { return &i.Tables[e>>12-first] }
	for a, top := range i.Tables[root] {
		if top == 0 {
			continue
		}
		for b, middle := range table(top) {
			at := uint64(a)<<18 | uint64(b)<<9
			switch {
			case middle&8 != 0:
				for c := range uint64(512) {
					out[at|c] = view{sheet{"", middle>>12 + c}, middle&2 != 0, middle&4 != 0}
				}
			case middle != 0:
				for c, e := range table(middle) {
					if e != 0 {
						out[at|uint64(c)] = view{sheet{"", e >> 12}, e&2 != 0, e&4 != 0}
					}
				}
			}
		}
	}
	return out
}

// lies tells where a policy's page of this name lies on the machine.
func lies(b forge.Built, s sheet) uint64 {
	for n, r := range b.Policy.Regions {
		if r.Name == s.of {
			return b.Layout.Regions[n] + 4096*s.number
		}
	}
	for _, d := range b.Policy.Devices {
		if d.Name == s.of {
			return d.At + 4096*s.number
		}
	}
	return 4096 * s.number
}

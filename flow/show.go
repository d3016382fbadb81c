package flow

import "bulkhead/api"

// shower shows that s hears u by one kind of edge, if there is one.
type shower func() (showing, bool)

// shown asks one kind of edge behind the other. A channel that starts s is
// asked for first: of one that is stopped at boot nothing else shows.
func (c scene) shown() (showing, bool) {
	if c.u == c.s {
		return showing{}, false
	}
	row := []shower{
		c.byChannel(api.ByStart, showing{lull: true, starts: true, hear: c.status()}),
		c.byChannel(api.ByReset, showing{lull: true, hear: c.status()}),
		c.byChannel(api.ByStop, showing{hear: c.status()}),
		c.byBit(),
		c.byMemory(),
		c.byWindow(),
		c.byIrq(),
		c.byRule(),
		c.byMaster(),
	}
	for _, show := range row {
		if x, ok := show(); ok {
			return x, true
		}
	}
	return showing{}, false
}

// status is a step of s that tells whether it can do any, and under which plan.
func (c scene) status() api.Step { return api.Step{Kind: api.Status, Subject: c.s} }

func (c scene) poll(vector uint64) api.Step {
	return api.Step{Kind: api.Poll, Subject: c.s, Value: vector}
}

func (c scene) load(at uint64) api.Step {
	return api.Step{Kind: api.Access, Subject: c.s, Access: api.Load, At: at, Width: 1}
}

// channel finds a channel from u to s with this effect.
func (c scene) channel(how int) (int, bool) {
	if _, device := c.device(); device {
		return 0, false
	}
	from, to := c.Subjects[c.u].Name, c.Subjects[c.s].Name
	for n, x := range c.Channels {
		if x.From == from && x.To == to && x.How == how {
			return n, true
		}
	}
	return 0, false
}

func (c scene) signal(channel int) api.Step {
	return api.Step{Kind: api.Signal, Subject: c.u, Number: channel}
}

// byChannel shows an effect that s feels whatever it asks: who sleeps is woken
// by a start and by a reset.
func (c scene) byChannel(how int, x showing) shower {
	return func() (showing, bool) {
		n, ok := c.channel(how)
		x.act = c.signal(n)
		return x, ok
	}
}

func (c scene) byBit() shower {
	return func() (showing, bool) {
		n, ok := c.channel(api.ByVector)
		if !ok {
			return showing{}, false
		}
		return showing{act: c.signal(n), hear: c.poll(c.Channels[n].Vector)}, true
	}
}

// byMemory shows an object that u maps for writing and s maps.
func (c scene) byMemory() shower {
	return func() (showing, bool) {
		for _, w := range c.maps() {
			if !w.Write {
				continue
			}
			if at, ok := c.mapped(w.Of); ok {
				return showing{act: c.store(w.At, c.other(w.Of)), hear: c.load(at)}, true
			}
		}
		return showing{}, false
	}
}

// maps is what u maps.
func (c scene) maps() []api.Map {
	if d, device := c.device(); device {
		return c.Devices[d].Maps
	}
	return c.Subjects[c.u].Maps
}

// mapped finds where s maps an object.
func (c scene) mapped(object string) (uint64, bool) {
	for _, m := range c.Subjects[c.s].Maps {
		if m.Of == object {
			return m.At, true
		}
	}
	return 0, false
}

func (c scene) store(at, value uint64) api.Step {
	out := api.Step{Kind: api.Access, Subject: c.u, Access: api.Store, At: at, Width: 1, Value: value}
	if d, device := c.device(); device {
		out.Kind, out.Subject, out.Number = api.Dma, 0, d
	}
	return out
}

// other is a byte that an object does not begin with at boot; a window begins
// with 0.
func (c scene) other(object string) uint64 {
	first := uint64(0)
	for _, r := range c.Regions {
		switch {
		case r.Name != object:
		case r.Text != "":
			first = uint64(r.Text[0])
		default:
			first = r.Fill
		}
	}
	return first ^ 0xff
}

// byWindow shows that s maps u's own window.
func (c scene) byWindow() shower {
	return func() (showing, bool) {
		d, device := c.device()
		if !device {
			return showing{}, false
		}
		at, ok := c.mapped(c.Devices[d].Name)
		return showing{act: api.Step{Kind: api.Write, Number: d, Width: 1, Value: 1}, hear: c.load(at)}, ok
	}
}

func (c scene) byIrq() shower {
	return func() (showing, bool) {
		d, device := c.device()
		for n, q := range c.Irqs {
			if device && q.From == c.Devices[d].Name && q.To == c.Subjects[c.s].Name {
				return showing{act: api.Step{Kind: api.Irq, Number: n}, hear: c.poll(q.Vector)}, true
			}
		}
		return showing{}, false
	}
}

// byRule shows that s is told of u's faults: beyond all addresses everybody has
// one.
func (c scene) byRule() shower {
	return func() (showing, bool) {
		if _, device := c.device(); device {
			return showing{}, false
		}
		for _, r := range c.Subjects[c.u].Rules {
			if r.How == api.ByVector && r.To == c.Subjects[c.s].Name {
				act := api.Step{Kind: api.Access, Subject: c.u, Access: api.Load, At: api.MaxVirt, Width: 1}
				return showing{act: act, hear: c.poll(r.Vector)}, true
			}
		}
		return showing{}, false
	}
}

// byMaster shows that u can switch plans: under another one s is either not
// current at its tick, or is told that plan's number.
func (c scene) byMaster() shower {
	return func() (showing, bool) {
		_, device := c.device()
		if device || len(c.Plans) < 2 || len(c.Masters) == 0 || c.Masters[0].Name != c.Subjects[c.u].Name {
			return showing{}, false
		}
		other := 0
		if c.plan() == 0 {
			other = 1
		}
		return showing{act: api.Step{Kind: api.Switch, Subject: c.u, Number: other}, hear: c.status()}, true
	}
}

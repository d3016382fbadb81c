package check

import "bulkhead/api"

// holders are those of a list that have something in common: the number of
// the first of them, how many they are, and the two lowest of their places.
type holders struct{ number, many, lowest, second int }

// with is the holders and one more.
func (h holders) with(number, place int) holders {
	switch {
	case h.many == 0:
		h.number, h.lowest = number, place
	case place < h.lowest:
		h.lowest, h.second = place, h.lowest
	case h.many == 1 || place < h.second:
		h.second = place
	}
	h.many++
	return h
}

// several takes on holders that are not alone. The later one of two stands at
// the higher place: so the lowest place of a later one is the second of all.
func (h holders) several(g *group) { g.wrong(h.second, api.ErrTwice, h.many > 1) }

// register has the holders of each name, or of whatever else is to be one's own.
type register[K comparable] map[K]holders

// registered makes the register of a list.
func registered[T any, K comparable](list []T, entry func(T) (K, int)) register[K] {
	r := make(register[K], len(list))
	for i, x := range list {
		key, place := entry(x)
		r[key] = r[key].with(i, place)
	}
	return r
}

// has tells whether one of the list has it.
func (r register[K]) has(key K) bool { return r[key].many > 0 }

// twice takes on what several of a list have.
func twice[K comparable](g *group, r register[K]) {
	for _, h := range r {
		h.several(g)
	}
}

// single takes on a list that has several members.
func single[T any](g *group, list []T, place func(T) int) {
	var h holders
	for i, x := range list {
		h = h.with(i, place(x))
	}
	h.several(g)
}

// known are the names of a policy.
type known struct{ devices, regions, subjects, channels, irqs, plans register[string] }

func knownOf(p api.Policy) known {
	return known{
		devices:  registered(p.Devices, func(d api.Device) (string, int) { return d.Name, d.Pos }),
		regions:  registered(p.Regions, func(r api.Region) (string, int) { return r.Name, r.Pos }),
		subjects: registered(p.Subjects, func(s api.Subject) (string, int) { return s.Name, s.Pos }),
		channels: registered(p.Channels, func(c api.Channel) (string, int) { return c.Name, c.Pos }),
		irqs:     registered(p.Irqs, func(i api.IrqLine) (string, int) { return i.Name, i.Pos }),
		plans:    registered(p.Plans, func(n api.Plan) (string, int) { return n.Name, n.Pos }),
	}
}

// all are the registers, one a family.
func (k known) all() [6]register[string] {
	return [...]register[string]{k.devices, k.regions, k.subjects, k.channels, k.irqs, k.plans}
}

// object is what a mapping is of: a region, or the window of a device.
type object struct {
	size    uint64
	big, wx bool
}

// object finds an object by its name, a region ahead of a device.
func (l *look) object(name string) (object, bool) {
	if h := l.known.regions[name]; h.many > 0 {
		r := l.policy.Regions[h.number]
		return object{size: r.Size, big: r.Big, wx: r.Wx}, true
	}
	if h := l.known.devices[name]; h.many > 0 {
		return object{size: l.policy.Devices[h.number].Size}, true
	}
	return object{}, false
}

// unit is the number of which a size and a place are multiples.
func unit(big bool) uint64 {
	if big {
		return api.Big
	}
	return api.Page
}

package kernel

import "bulkhead/api"

// What comes from outside: the ticks, and what devices do.

func (k *Kernel) tick(s api.Step) api.Result {
	for n := range k.subjects {
		k.subjects[n].age(s.Value)
	}
	k.pass(s.Value)
	return api.Result{}
}

func (k *Kernel) write(s api.Step) api.Result {
	if !among(s.Number, len(k.devices)) {
		return refused(api.ErrDevice)
	}
	switch s.Width {
	case 1, 2, 4, 8:
	default:
		return refused(api.ErrWidth)
	}
	// A window has a page at least, so no width is more than it.
	window := k.image.Bus.Devices[s.Number]
	if s.At > window.Size-uint64(s.Width) {
		return refused(api.ErrBound)
	}
	k.machine.Store(window.At+s.At, s.Width, s.Value)
	return api.Result{}
}

func (k *Kernel) dma(s api.Step) api.Result {
	if !among(s.Number, len(k.devices)) {
		return refused(api.ErrDevice)
	}
	return k.devices[s.Number].access(s)
}

func (k *Kernel) irq(s api.Step) api.Result {
	if !among(s.Number, len(k.irqs)) {
		return refused(api.ErrIrq)
	}
	if q := &k.irqs[s.Number]; q.masked {
		q.latched = true
	} else {
		k.deliver(q)
	}
	return api.Result{}
}

package kernel

import "bulkhead/api"

// What a subject calls for that has its turn: k.subjects has s.Subject.

func (k *Kernel) access(s api.Step) api.Result {
	r := k.subjects[s.Subject].space.access(s)
	switch r.Why {
	case api.OK, api.ErrArg, api.ErrWidth:
	default:
		k.follow(s.Subject)
	}
	return r
}

func (k *Kernel) signal(s api.Step) api.Result {
	if !among(s.Number, len(k.image.Channels)) {
		return refused(api.ErrChannel)
	}
	c := k.image.Channels[s.Number]
	if c.From != s.Subject {
		return refused(api.ErrChannel)
	}
	k.affect(c.To, c.Effect, c.Vector)
	return api.Result{}
}

func (k *Kernel) poll(s api.Step) api.Result {
	if s.Value >= api.Vectors {
		return refused(api.ErrVector)
	}
	own := &k.subjects[s.Subject]
	bit := own.pending >> s.Value & 1
	own.pending &^= 1 << s.Value
	return api.Result{Value: bit}
}

func (k *Kernel) wait(s api.Step) api.Result {
	own := &k.subjects[s.Subject]
	own.asleep = own.pending == 0
	return api.Result{Value: own.pending}
}

func (k *Kernel) arm(s api.Step) api.Result {
	if s.Value >= api.Vectors {
		return refused(api.ErrVector)
	}
	k.subjects[s.Subject].timer = timer{left: s.At, vector: int(s.Value)}
	return api.Result{}
}

func (k *Kernel) status(s api.Step) api.Result {
	_, left := k.slot(k.subjects[s.Subject].CPU)
	return api.Result{Value: uint64(k.plan), At: uint64(left), Clock: k.ticks}
}

// change asks for another plan, which begins at the next wrap.
func (k *Kernel) change(s api.Step) api.Result {
	switch {
	case s.Subject != k.image.Master:
		return refused(api.ErrMaster)
	case !among(s.Number, len(k.plans)):
		return refused(api.ErrPlan)
	}
	k.asked = s.Number
	return api.Result{}
}

func (k *Kernel) unmask(s api.Step) api.Result {
	if !among(s.Number, len(k.irqs)) || k.irqs[s.Number].To != s.Subject {
		return refused(api.ErrIrq)
	}
	q := &k.irqs[s.Number]
	q.masked = false
	if q.latched {
		q.latched = false
		k.deliver(q)
	}
	return api.Result{}
}

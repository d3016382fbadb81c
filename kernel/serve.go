package kernel

import "bulkhead/api"

// serve has a step done by the call for its kind.
func (k *Kernel) serve(s api.Step) api.Result {
	calls := [...]func(*Kernel, api.Step) api.Result{
		api.Tick:   (*Kernel).tick,
		api.Write:  (*Kernel).write,
		api.Dma:    (*Kernel).dma,
		api.Irq:    (*Kernel).irq,
		api.Access: (*Kernel).access,
		api.Signal: (*Kernel).signal,
		api.Poll:   (*Kernel).poll,
		api.Wait:   (*Kernel).wait,
		api.Arm:    (*Kernel).arm,
		api.Status: (*Kernel).status,
		api.Switch: (*Kernel).change,
		api.Unmask: (*Kernel).unmask,
	}
	if s.Kind < api.Tick || s.Kind >= len(calls) {
		return refused(api.ErrArg)
	}
	// From Access on the steps are a subject's, and wait for its turn.
	if s.Kind >= api.Access {
		if why := k.turn(s.Subject); why != api.OK {
			return refused(why)
		}
	}
	return calls[s.Kind](k, s)
}

// turn tells why a subject may not do a step now.
func (k *Kernel) turn(who int) api.Errno {
	if !among(who, len(k.subjects)) {
		return api.ErrSubject
	}
	s := &k.subjects[who]
	switch {
	case k.Current(s.CPU) != who:
		return api.ErrTurn
	case s.Stopped:
		return api.ErrStopped
	case s.asleep:
		return api.ErrAsleep
	}
	return api.OK
}

func refused(why api.Errno) api.Result { return api.Result{Why: why} }

// among tells whether a number is one of so many things.
func among(n, many int) bool { return n >= 0 && n < many }

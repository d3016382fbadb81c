package console

import "bulkhead/api"

// verb reads what stands behind a word, and tells its step.
type verb func(r *row) api.Step

// verbs are the words that may stand at one place of a line.
type verbs map[string]verb

// step is what a line says, if it is a step.
func (v verbs) step(words []string) (api.Step, bool) {
	r := row{words: words}
	s := v.read(&r)
	return s, r.right()
}

// read takes one of these words, and what stands behind it.
func (v verbs) read(r *row) api.Step {
	next, ok := v[r.word()]
	if !ok {
		r.wrong = true
		return api.Step{}
	}
	return next(r)
}

// openings are the words with which a line begins.
func openings(known names) verbs {
	subjects, devices := numbered(known.subjects), numbered(known.devices)
	own, called := moves(), calls(known)
	return verbs{
		"tick": counted(api.Tick),
		"irq":  pointed(api.Irq, numbered(known.irqs)),
		"write": func(r *row) api.Step {
			device := r.name(devices)
			s := stored(api.Write, 0)(r)
			s.Number = device
			return s
		},
		"dma": func(r *row) api.Step {
			device := r.name(devices)
			s := own.read(r)
			s.Number = device
			return s
		},
		"do": func(r *row) api.Step {
			subject := r.name(subjects)
			s := called.read(r)
			s.Subject = subject
			return s
		},
	}
}

// moves are what a device does by itself.
func moves() verbs {
	return verbs{
		"load":  loaded(api.Dma, api.Load),
		"store": stored(api.Dma, api.Store),
	}
}

// calls are what a subject does.
func calls(known names) verbs {
	return verbs{
		"load":   loaded(api.Access, api.Load),
		"fetch":  loaded(api.Access, api.Fetch),
		"store":  stored(api.Access, api.Store),
		"signal": pointed(api.Signal, numbered(known.channels)),
		"poll":   counted(api.Poll),
		"wait":   bare(api.Wait),
		"arm": func(r *row) api.Step {
			ticks := r.number()
			vector := r.number()
			return api.Step{Kind: api.Arm, At: ticks, Value: vector}
		},
		"status": bare(api.Status),
		"switch": pointed(api.Switch, numbered(known.plans)),
		"unmask": pointed(api.Unmask, numbered(known.irqs)),
	}
}

// bare has nothing behind it.
func bare(kind int) verb {
	return func(*row) api.Step { return api.Step{Kind: kind} }
}

// counted has a number behind it.
func counted(kind int) verb {
	return func(r *row) api.Step { return api.Step{Kind: kind, Value: r.number()} }
}

// pointed has the name of a thing behind it.
func pointed(kind int, known register) verb {
	return func(r *row) api.Step { return api.Step{Kind: kind, Number: r.name(known)} }
}

// loaded has an address and a width behind it.
func loaded(kind, access int) verb {
	return func(r *row) api.Step {
		at := r.number()
		width := r.width()
		return api.Step{Kind: kind, Access: access, At: at, Width: width}
	}
}

// stored has a value behind these, too.
func stored(kind, access int) verb {
	load := loaded(kind, access)
	return func(r *row) api.Step {
		s := load(r)
		s.Value = r.number()
		return s
	}
}

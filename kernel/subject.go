package kernel

import "bulkhead/api"

// subject is a tenant of the image while it runs. The Tenant's Stopped tells
// whether it is stopped now.
type subject struct {
	api.Tenant
	space   space
	pending uint64 // bit v for vector v
	timer   timer
	asleep  bool
}

// timer has so many ticks left until it sets the bit of a vector; it is off, if
// none are left.
type timer struct {
	left   uint64
	vector int
}

// set sets a vector's bit.
func (s *subject) set(vector int) {
	s.pending |= 1 << vector
	s.asleep = false
}

// age takes so many ticks from the subject's timer, if it runs.
func (s *subject) age(n uint64) {
	switch {
	case s.timer.left == 0:
	case s.timer.left > n:
		s.timer.left -= n
	default:
		s.timer.left = 0
		s.set(s.timer.vector)
	}
}

// affect does to a subject what a channel's effect, or a rule, says. A rule
// that is none does nothing.
func (k *Kernel) affect(who, effect, vector int) {
	s := &k.subjects[who]
	switch effect {
	case api.ByVector:
		s.set(vector)
	case api.ByReset:
		k.renew(s.space)
		s.pending, s.timer, s.asleep = 0, timer{}, false
	case api.ByStop:
		s.Stopped = true
	case api.ByStart:
		s.Stopped, s.asleep = false, false
	}
}

// follow does what a subject's rule says on a fault: to the one who is told, or
// else to the subject itself.
func (k *Kernel) follow(who int) {
	s := k.subjects[who]
	if s.Rule == api.ByVector {
		who = s.To
	}
	k.affect(who, s.Rule, s.Vector)
}

// line is an irq while it runs; its Masked tells what it was declared.
type line struct {
	api.Link
	masked, latched bool
}

// deliver sets the bit of an irq's reader.
func (k *Kernel) deliver(q *line) {
	k.subjects[q.To].set(q.Vector)
	q.masked = q.Masked
}

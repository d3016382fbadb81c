package flow

import (
	"slices"

	"bulkhead/api"
	"bulkhead/check"
	"bulkhead/lanes"
)

// Witness builds two scripts that differ in u's steps alone and make s hear two things.
func Witness(p api.Policy, u, s int) ([]api.Step, []api.Step, api.Errno) {
	if _, why := check.Check(p); why != api.OK {
		return nil, nil, api.ErrArg
	}
	if u < 0 || u >= len(p.Subjects)+len(p.Devices) || s < 0 || s >= len(p.Subjects) {
		return nil, nil, api.ErrActor
	}
	c := scene{Policy: p, u: u, s: s}
	x, ok := c.shown()
	if !ok {
		return nil, nil, api.ErrEdge
	}
	t, ok := c.turns()
	if !ok {
		return nil, nil, api.ErrTurn
	}
	if c.stopped(x) {
		return nil, nil, api.ErrStopped
	}
	return x.script(t, s, true), x.script(t, s, false), api.OK
}

// scene is a policy and the two of whom one is to be shown to hear the other.
type scene struct {
	api.Policy
	u, s int
}

// plan is the number of the start plan.
func (c scene) plan() int {
	return slices.IndexFunc(c.Plans, func(n api.Plan) bool { return n.Name == c.Starts[0].Name })
}

// device tells u's number among the devices, if it is one.
func (c scene) device() (int, bool) {
	d := c.u - len(c.Subjects)
	return d, d >= 0
}

// turns finds a tick for each of the two; a device needs none.
func (c scene) turns() (turns, bool) {
	plan := c.Plans[c.plan()]
	hears, ok := turn(plan, c.Subjects[c.s])
	t := turns{major: plan.Major, hears: hears}
	if _, device := c.device(); device || !ok {
		return t, ok
	}
	t.acts, ok = turn(plan, c.Subjects[c.u])
	return t, ok
}

// turn finds the first tick of a subject in its lane of a plan.
func turn(plan api.Plan, x api.Subject) (uint64, bool) {
	for _, l := range plan.Lanes {
		if l.CPU != x.CPU {
			continue
		}
		slots, _, _ := lanes.Flatten(plan.Major, l)
		for _, slot := range slots {
			if slot.Subject == x.Name {
				return uint64(slot.From), true
			}
		}
	}
	return 0, false
}

// stopped tells whether one of the two is stopped, and stays so.
func (c scene) stopped(x showing) bool {
	if _, device := c.device(); !device && c.Subjects[c.u].Stopped {
		return true
	}
	return c.Subjects[c.s].Stopped && !x.starts
}

// turns is the major frame's length, and the ticks at which u acts and s hears.
type turns struct{ major, acts, hears uint64 }

// showing is what u does or leaves, and the step of s that tells which.
type showing struct {
	lull      bool // s goes to sleep ahead of it
	starts    bool // s is stopped no more behind it
	act, hear api.Step
}

// script is s's sleep, u's act and s's hearing, each in a major frame of its
// own: a plan that the act asks for has begun when s hears.
func (x showing) script(t turns, s int, acts bool) []api.Step {
	var out []api.Step
	now := uint64(0)
	until := func(offset uint64) {
		out = append(out, api.Step{Kind: api.Tick, Value: t.major - now + offset})
		now = offset
	}
	if x.lull {
		until(t.hears)
		out = append(out, api.Step{Kind: api.Wait, Subject: s})
	}
	until(t.acts)
	if acts {
		out = append(out, x.act)
	}
	until(t.hears)
	return append(out, x.hear)
}

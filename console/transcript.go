package console

import (
	"errors"
	"strconv"

	"bulkhead/api"
	"bulkhead/bus"
	"bulkhead/forge"
	"bulkhead/kernel"
)

// transcript is lines that tell what came of a policy and a script.
type transcript []byte

// line lays a line down, made of these pieces.
func (t *transcript) line(pieces ...string) {
	for _, p := range pieces {
		*t = append(*t, p...)
	}
	*t = append(*t, '\n')
}

// run tells of each stage, up to the first that refuses.
func (t *transcript) run(policy, script []byte) {
	built, err := forge.Compile(policy)
	var r *forge.Refusal
	if errors.As(err, &r) {
		t.line("class ", strconv.Itoa(r.Class), " refused ", reason(r.Why), " at ", strconv.Itoa(r.Place.Line), ":", strconv.Itoa(r.Place.Column))
		return
	}
	t.line("built ", strconv.Itoa(built.Layout.Pages), " pages at ", hexadecimal(built.Layout.Image))
	steps, at, why := Parse(built.Policy, script)
	if why != api.OK {
		t.line("script refused ", reason(why), " at ", strconv.Itoa(at))
		return
	}
	t.play(built, steps)
}

// play tells of each step. A machine or an image that were refused would be told
// by every step: a kernel that is down refuses them all.
func (t *transcript) play(built forge.Built, steps []api.Step) {
	m, _ := bus.New(forge.Bus(built.Policy))
	k, _ := kernel.Boot(m, built.Image)
	for n, r := range k.Run(steps) {
		t.line(Tell(steps[n], r))
	}
}

// reason is the number of a refusal.
func reason(why api.Errno) string { return strconv.Itoa(int(why)) }

// heard is what is told of a step that was done, behind the ok.
func heard(s api.Step, r api.Result) string {
	value := " " + hexadecimal(r.Value)
	switch {
	case s.Kind == api.Poll, s.Kind == api.Wait:
		return value
	case s.Access == api.Load && (s.Kind == api.Access || s.Kind == api.Dma):
		return value
	case s.Access == api.Fetch && s.Kind == api.Access:
		return value
	case s.Kind == api.Status:
		return " plan " + decimal(r.Value) + " left " + decimal(r.At) + " clock " + decimal(r.Clock)
	}
	return ""
}

package fleet

import (
	"errors"
	"strconv"
	"sync"

	"bulkhead/api"
	"bulkhead/bus"
	"bulkhead/console"
	"bulkhead/forge"
	"bulkhead/kernel"
)

// product is what comes of a policy's text: the line that tells of it, and, if it
// is taken, all that a script needs. It is only read once it is made, by many
// workers at a time.
type product struct {
	once   sync.Once
	head   string
	taken  bool
	policy api.Policy
	image  []byte
}

// run tells what comes of a job of this policy.
func (p *product) run(j Job) []byte {
	p.once.Do(func() { p.compile(j.Policy) })
	out := []byte(p.head)
	if !p.taken {
		return out
	}
	steps, at, why := console.Parse(p.policy, j.Script)
	if why != api.OK {
		return append(out, line("script refused ", number(why), " at ", strconv.Itoa(at))...)
	}
	return p.play(out, steps)
}

// compile makes it out of its text.
func (p *product) compile(policy []byte) {
	b, err := forge.Compile(policy)
	var r *forge.Refusal
	if errors.As(err, &r) {
		p.head = line("class ", strconv.Itoa(r.Class), " refused ", number(r.Why), " at ", strconv.Itoa(r.Place.Line), ":", strconv.Itoa(r.Place.Column))
		return
	}
	p.head = line("built ", strconv.Itoa(b.Layout.Pages), " pages at 0x", strconv.FormatUint(b.Layout.Image, 16))
	p.taken, p.policy, p.image = true, b.Policy, b.Image
}

// play tells of each step, behind what is told already. Each job has a machine of
// its own: nothing of one is heard by another.
func (p *product) play(out []byte, steps []api.Step) []byte {
	m, _ := bus.New(forge.Bus(p.policy))
	k, _ := kernel.Boot(m, p.image)
	for n, r := range k.Run(steps) {
		out = append(out, line(console.Tell(steps[n], r))...)
	}
	return out
}

// line is a line of a transcript, made of these pieces.
func line(pieces ...string) string {
	var text string
	for _, p := range pieces {
		text += p
	}
	return text + "\n"
}

// number is a refusal's, in decimal.
func number(why api.Errno) string { return strconv.Itoa(int(why)) }

package audit

import (
	"strconv"

	"bulkhead/api"
)

// part lays a part of a line down behind what stands there; nil lays nothing.
type part func(line []byte) []byte

func bare(name string) part {
	return func(line []byte) []byte { return append(line, name...) }
}

// flag is a name that stands there only if something is so.
func flag(name string, so bool) part {
	if !so {
		return nil
	}
	return bare(name)
}

// number is a name and a number behind it, or "-" where there is none.
func number(name string, n int) part {
	return func(line []byte) []byte { return decimal(append(append(line, name...), ' '), n) }
}

func decimal(line []byte, n int) []byte {
	if n == -1 {
		return append(line, '-')
	}
	return strconv.AppendInt(line, int64(n), 10)
}

// address is a name and a number behind it, in hexadecimal.
func address(name string, n uint64) part {
	return func(line []byte) []byte {
		return strconv.AppendUint(append(append(line, name...), " 0x"...), n, 16)
	}
}

// effect is what a channel, or a rule that tells nobody, does.
func effect(how, vector int) part {
	switch how {
	case api.ByReset:
		return bare("reset")
	case api.ByStop:
		return bare("stop")
	case api.ByStart:
		return bare("start")
	}
	return number("vector", vector)
}

// rights are what a row may be used for.
func rights(write, exec bool) part {
	return func(line []byte) []byte {
		line = append(line, "r--"...)
		last := line[len(line)-2:]
		if write {
			last[0] = 'w'
		}
		if exec {
			last[1] = 'x'
		}
		return line
	}
}

// lane is a plan's lane of a CPU: its stints.
func lane(cpu int, stints []api.Stint) part {
	return func(line []byte) []byte {
		line = number("cpu", cpu)(line)
		between := ": "
		for _, s := range stints {
			line = decimal(append(line, between...), s.Subject)
			line = decimal(append(line, " x "...), s.Ticks)
			between = ", "
		}
		return line
	}
}

// text is lines, one behind the other.
type text []byte

// line lays a line down, a blank between its parts.
func (t *text) line(parts ...part) {
	out, between := *t, ""
	for _, p := range parts {
		if p != nil {
			out = p(append(out, between...))
			between = " "
		}
	}
	*t = append(out, '\n')
}

// inner lays a line down that belongs to the one ahead of it.
func (t *text) inner(parts ...part) {
	*t = append(*t, "  "...)
	t.line(parts...)
}

// listed is the image as text.
func (i image) listed() []byte {
	var t text
	t.line(address("image", i.Base), number("pages", i.pages))
	i.listGround(&t)
	for n, s := range i.Subjects {
		i.listSubject(&t, n, s)
	}
	for n, d := range i.Devices {
		if d.Root != -1 {
			t.line(number("device", n))
			i.listReach(&t, d.Root)
		}
	}
	i.listLinks(&t)
	i.listPlans(&t)
	return t
}

// listGround lists what lies at physical addresses.
func (i image) listGround(t *text) {
	for _, r := range i.Bus.Rams {
		t.line(address("ram", r.At), address("size", r.Size))
	}
	for n, d := range i.Bus.Devices {
		t.line(number("device", n), address("at", d.At), address("size", d.Size), number("tables", i.Devices[n].Root))
	}
	for n, g := range i.Regions {
		t.line(number("region", n), address("at", g.At), address("size", g.Size), number("fill", int(g.Fill)), number("text", len(g.Text)))
	}
}

func (i image) listSubject(t *text, n int, s api.Tenant) {
	t.line(number("subject", n), number("cpu", s.CPU), number("tables", s.Root), flag("stopped", s.Stopped))
	switch s.Rule {
	case 0:
	case api.ByVector:
		t.inner(number("rule tell", s.To), number("vector", s.Vector))
	default:
		t.inner(bare("rule"), effect(s.Rule, s.Vector))
	}
	i.listReach(t, s.Root)
}

func (i image) listReach(t *text, root int) {
	for _, r := range i.reach(root) {
		t.inner(address("map", r.Virt), address("to", r.Phys), address("size", uint64(r.Pages)*api.Page), rights(r.Write, r.Exec), flag("big", r.Big))
	}
}

func (i image) listLinks(t *text) {
	for n, c := range i.Channels {
		t.line(number("channel", n), number("from", c.From), number("to", c.To), effect(c.Effect, c.Vector))
	}
	for n, q := range i.Irqs {
		t.line(number("irq", n), number("from", q.From), number("to", q.To), number("vector", q.Vector), flag("masked", q.Masked))
	}
}

func (i image) listPlans(t *text) {
	for n, p := range i.Plans {
		t.line(number("plan", n), number("major", p.Major))
		for cpu, stints := range p.Lanes {
			t.inner(lane(cpu, stints))
		}
	}
	t.line(number("master", i.Master))
	t.line(number("start", i.Start))
}

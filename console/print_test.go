package console

import (
	"bytes"
	"math"
	"reflect"
	"slices"
	"strings"
	"testing"

	"bulkhead/api"
)

func TestPrintEachStep(t *testing.T) {
	p := people()
	var all string
	var script []api.Step
	for _, x := range pairs() {
		holdPrinted(t, p, x.line+"\n", x.step)
		all, script = all+x.line+"\n", append(script, x.step)
	}
	holdPrinted(t, p, all, script...)
	holdPrinted(t, p, "")
	holdPrinted(t, api.Policy{}, "")
	holdPrinted(t, api.Policy{}, "tick 5\n", api.Step{Kind: api.Tick, Value: 5})
}

// AT and VALUE are hexadecimal, all other numbers decimal.
func TestPrintedNumbers(t *testing.T) {
	p := people()
	for line, step := range numberLine() {
		for _, n := range []uint64{0, 9, 10, 255, 1 << 63, 1<<64 - 1} {
			holdRead(t, p, strings.ReplaceAll(line, "%", spelt(n)[0]), step(n))
		}
	}
	for line, step := range widthLine() {
		for _, n := range []int{0, 10, 1<<31 - 1} {
			holdRead(t, p, strings.ReplaceAll(line, "%", spelt(uint64(n))[0]), step(n))
		}
	}
	holdPrinted(t, p, "do a arm 4096 16\ndo a poll 100\ntick 255\n",
		api.Step{Kind: api.Arm, At: 4096, Value: 16}, api.Step{Kind: api.Poll, Value: 100}, api.Step{Kind: api.Tick, Value: 255})
	holdPrinted(t, p, "write d 0x10 16 0x10\ndma d load 0x64 100\ndo a store 0x64 100 0x64\n",
		api.Step{Kind: api.Write, At: 16, Width: 16, Value: 16},
		api.Step{Kind: api.Dma, Access: api.Load, At: 100, Width: 100},
		api.Step{Kind: api.Access, Access: api.Store, At: 100, Width: 100, Value: 100})
}

// holdRead holds that a line is a step, and that the step is printed as a line
// that says the same.
func holdRead(t *testing.T, p api.Policy, line string, step api.Step) {
	t.Helper()
	holdScript(t, p, line, step)
	out, why := Print(p, []api.Step{step})
	if why != api.OK || bytes.Count(out, []byte("\n")) != 1 {
		t.Errorf("P19.2: %+v: %q, %v", step, out, why)
		return
	}
	holdScript(t, p, string(out), step)
}

// others are steps that differ from one in a single field each.
func others(s api.Step) []api.Step {
	var out []api.Step
	for _, n := range []int{1, -1, 2, 3, 1 << 31, math.MaxInt, math.MinInt} {
		for field := range 5 {
			x := s
			*[]*int{&x.Kind, &x.Subject, &x.Number, &x.Access, &x.Width}[field] += n
			out = append(out, x)
		}
	}
	for _, n := range []uint64{1, 1 << 32, 1<<64 - 1} {
		x, y := s, s
		x.At += n
		y.Value += n
		out = append(out, x, y)
	}
	return out
}

// told are the fields that a step's line tells: all others are zero.
func told(s api.Step) api.Step {
	out := api.Step{Kind: s.Kind}
	switch s.Kind {
	case api.Tick, api.Poll, api.Arm, api.Write:
		out.Value = s.Value
	}
	if s.Access == api.Store && (s.Kind == api.Dma || s.Kind == api.Access) {
		out.Value = s.Value
	}
	switch s.Kind {
	case api.Write, api.Dma, api.Irq, api.Signal, api.Switch, api.Unmask:
		out.Number = s.Number
	}
	switch s.Kind {
	case api.Dma, api.Access:
		out.Access = s.Access
		fallthrough
	case api.Write:
		out.Width = s.Width
		fallthrough
	case api.Arm:
		out.At = s.At
	}
	if s.Kind >= api.Access {
		out.Subject = s.Subject
	}
	return out
}

// among tells whether a number stands for the first thing with its name.
func among(names []string, n int) bool {
	return n >= 0 && n < len(names) && slices.Index(names, names[n]) == n
}

// tellable tells whether a line tells a step, over names that are words.
func tellable(p api.Policy, s api.Step) bool {
	k := namesOf(p)
	things := map[int][]string{api.Write: k.devices, api.Dma: k.devices, api.Irq: k.irqs, api.Signal: k.channels, api.Switch: k.plans, api.Unmask: k.irqs}
	if s.Kind < api.Tick || s.Kind > api.Unmask || s != told(s) || s.Width < 0 || s.Width > math.MaxInt32 {
		return false
	}
	if names, ok := things[s.Kind]; ok && !among(names, s.Number) {
		return false
	}
	switch s.Kind {
	case api.Dma:
		return s.Access == api.Load || s.Access == api.Store
	case api.Access:
		return s.Access >= api.Load && s.Access <= api.Fetch && among(k.subjects, s.Subject)
	}
	return s.Kind < api.Access || among(k.subjects, s.Subject)
}

// Each field of each step, turned by itself: it is told, or the step is refused.
func TestEachField(t *testing.T) {
	p := people()
	answered, refused := 0, 0
	for _, x := range pairs() {
		for _, s := range others(x.step) {
			out, why := Print(p, []api.Step{s})
			if tellable(p, s) {
				answered++
				holdPrinted(t, p, string(out), s)
			} else {
				refused++
				holdNoForm(t, "a field", p, s)
				// Nor is a script with it in the midst of others.
				holdNoForm(t, "a field", p, x.step, s, x.step)
			}
			if (why == api.OK) != tellable(p, s) {
				t.Errorf("P19.2: %+v: %v", s, why)
			}
		}
	}
	if answered < 100 || refused < 300 {
		t.Errorf("%d answered, %d refused", answered, refused)
	}
}

func TestFieldsThatNoLineTells(t *testing.T) {
	p := people()
	for kind := -3; kind < 40; kind++ {
		full := api.Step{Kind: kind, Subject: 1, Number: 1, Access: api.Store, At: 1, Width: 1, Value: 1}
		holdNoForm(t, "all fields", p, full)
		if kind < api.Tick || kind > api.Unmask {
			holdNoForm(t, "a kind that is none", p, api.Step{Kind: kind})
		}
	}
	for _, s := range []api.Step{
		{Kind: api.Tick, Width: 1}, {Kind: api.Tick, Subject: 1}, {Kind: api.Tick, Number: 1}, {Kind: api.Tick, Access: 1}, {Kind: api.Tick, At: 1},
		{Kind: api.Dma, Access: api.Fetch}, {Kind: api.Dma}, {Kind: api.Dma, Access: 4}, {Kind: api.Dma, Access: -1}, {Kind: api.Dma, Access: api.Load, Value: 1},
		{Kind: api.Access}, {Kind: api.Access, Access: 4}, {Kind: api.Access, Access: api.Fetch, Value: 1}, {Kind: api.Access, Access: api.Load, Number: 1},
		{Kind: api.Write, Access: api.Store}, {Kind: api.Write, Width: -1}, {Kind: api.Write, Width: 1 << 31}, {Kind: api.Write, Width: math.MinInt},
		{Kind: api.Wait, Value: 1}, {Kind: api.Wait, Number: 1}, {Kind: api.Arm, Width: 1}, {Kind: api.Status, At: 1}, {Kind: api.Signal, Value: 1},
	} {
		holdNoForm(t, "a field that its line does not tell", p, s)
	}
}

func TestThingsWithoutAName(t *testing.T) {
	p := people()
	for _, n := range []int{-1, 5, 6, 1 << 40, math.MaxInt, math.MinInt} {
		for _, s := range []api.Step{
			{Kind: api.Irq, Number: n}, {Kind: api.Write, Number: n}, {Kind: api.Dma, Access: api.Load, Number: n}, {Kind: api.Signal, Number: n},
			{Kind: api.Switch, Number: n}, {Kind: api.Unmask, Number: n}, {Kind: api.Wait, Subject: n}, {Kind: api.Status, Subject: n},
			{Kind: api.Poll, Subject: n}, {Kind: api.Arm, Subject: n}, {Kind: api.Access, Access: api.Load, Subject: n}, {Kind: api.Signal, Subject: n},
		} {
			holdNoForm(t, "there is none", p, s)
			holdNoForm(t, "there are none", api.Policy{}, s)
		}
	}
	// One ahead of it has the same name.
	for _, s := range []api.Step{
		{Kind: api.Wait, Subject: 2}, {Kind: api.Irq, Number: 2}, {Kind: api.Unmask, Number: 2}, {Kind: api.Write, Number: 3},
		{Kind: api.Dma, Access: api.Load, Number: 3}, {Kind: api.Signal, Number: 3}, {Kind: api.Switch, Number: 1},
	} {
		holdNoForm(t, "another one's name", p, s)
	}
}

// A name that is no word of a line cannot be told, whatever else has a name.
func TestNamesThatAreNoWords(t *testing.T) {
	for _, name := range []string{
		"", " ", "\n", "#", "a ", " a", "a b", "a\tb", "a\r", "a#", "#a", "a\n", "\na", "a\nb", "a#\n", "a\n#", "a wait\n#", "a wait\ndo a", "a wait #", "a signal c\n#", "\r", "\t",
	} {
		p := api.Policy{
			Subjects: []api.Subject{{Name: "a"}, {Name: name}},
			Devices:  []api.Device{{Name: "a"}, {Name: name}},
			Channels: []api.Channel{{Name: "a"}, {Name: name}},
			Irqs:     []api.IrqLine{{Name: "a"}, {Name: name}},
			Plans:    []api.Plan{{Name: "a"}, {Name: name}},
		}
		for _, s := range []api.Step{
			{Kind: api.Wait, Subject: 1}, {Kind: api.Status, Subject: 1}, {Kind: api.Signal, Subject: 1}, {Kind: api.Signal, Number: 1}, {Kind: api.Signal, Subject: 1, Number: 1},
			{Kind: api.Irq, Number: 1}, {Kind: api.Write, Number: 1}, {Kind: api.Dma, Access: api.Load, Number: 1}, {Kind: api.Switch, Number: 1}, {Kind: api.Unmask, Number: 1},
			{Kind: api.Access, Access: api.Load, Subject: 1}, {Subject: 1},
		} {
			holdNoForm(t, name, p, s)
			holdNoForm(t, name, p, api.Step{Kind: api.Wait}, s)
			holdNoForm(t, name, p, s, api.Step{})
		}
		holdPrinted(t, p, "do a wait\nirq a\n", api.Step{Kind: api.Wait}, api.Step{Kind: api.Irq})
	}
	for _, name := range []string{"7", "wait", "\xff", "a\x00", "é", "a.b"} {
		p := api.Policy{Subjects: []api.Subject{{}, {Name: name}}}
		holdPrinted(t, p, "do "+name+" wait\n", api.Step{Kind: api.Wait, Subject: 1})
	}
}

// What is too long to be read is not printed.
func TestPrintTooLong(t *testing.T) {
	tick := api.Step{Kind: api.Tick, Value: 1}
	wide := api.Step{Kind: api.Tick, Value: 10}
	n := api.MaxText / len("tick 1\n")
	left := api.MaxText - n*len("tick 1\n") // each wide one takes a byte more
	script := slices.Repeat([]api.Step{tick}, n)
	for i := range left {
		script[i] = wide
	}
	out, why := Print(api.Policy{}, script)
	if why != api.OK || len(out) != api.MaxText {
		t.Fatalf("P19.2: %d bytes, %v", len(out), why)
	}
	if again, _, why := Parse(api.Policy{}, out); why != api.OK || !slices.Equal(again, script) {
		t.Errorf("P19.5: %d steps, %v", len(again), why)
	}
	script[left] = wide
	if out, why := Print(api.Policy{}, script); why != api.ErrForm || len(out) != 0 {
		t.Errorf("P19.2: one byte more: %d bytes, %v", len(out), why)
	}
	if out, why := Print(api.Policy{}, slices.Repeat(script, 8)); why != api.ErrForm || len(out) != 0 {
		t.Errorf("P19.2: much more: %d bytes, %v", len(out), why)
	}
	long := strings.Repeat("s", api.MaxText-len("irq \n"))
	p := api.Policy{Irqs: []api.IrqLine{{Name: long}, {Name: long + "s"}}}
	holdPrinted(t, p, "irq "+long+"\n", api.Step{Kind: api.Irq})
	holdNoForm(t, "a long name", p, api.Step{Kind: api.Irq, Number: 1})
}

func TestPrintTouchesNothing(t *testing.T) {
	p, was := people(), people()
	room := []api.Step{{Kind: api.Tick, Value: 1}, {Kind: api.Wait}, {Kind: api.Poll, Value: 9}, {Kind: 77, At: 3}}
	old := slices.Clone(room)
	first, why := Print(p, room[:2])
	if why != api.OK {
		t.Fatal(why)
	}
	clear(first)
	_ = append(first, "tail"...)
	holdPrinted(t, p, "tick 1\ndo a wait\n", room[:2]...)
	if !slices.Equal(room, old) || !reflect.DeepEqual(p, was) {
		t.Error("R2: what was handed in is changed")
	}
}

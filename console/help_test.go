package console

import (
	"slices"
	"strings"
	"testing"

	"bulkhead/api"
	"bulkhead/forge"
)

// family is the policy of Family(n).
func family(t testing.TB, n int) api.Policy {
	t.Helper()
	p, err := forge.Read(forge.Family(n))
	if err != nil {
		t.Fatal(err)
	}
	return p
}

// people is a policy of names alone: no image comes of it. Each list has a name
// twice, one that stands in another list, and one that a line's words have.
func people() api.Policy {
	return api.Policy{
		Subjects: []api.Subject{{Name: "a"}, {Name: "b.0"}, {Name: "a"}, {Name: "wait"}, {Name: "both"}},
		Devices:  []api.Device{{Name: "d"}, {Name: "load"}, {Name: "both"}, {Name: "d"}},
		Channels: []api.Channel{{Name: "c.1.2"}, {Name: "both"}, {Name: "tick"}, {Name: "c.1.2"}},
		Irqs:     []api.IrqLine{{Name: "both"}, {Name: "q"}, {Name: "q"}, {Name: "do"}},
		Plans:    []api.Plan{{Name: "p"}, {Name: "p"}, {Name: "both"}, {Name: "0"}},
	}
}

// pair is a line as it is printed, and its step.
type pair struct {
	line string
	step api.Step
}

// pairs are lines of all kinds over people.
func pairs() []pair {
	return []pair{
		{"tick 0", api.Step{Kind: api.Tick}},
		{"tick 18446744073709551615", api.Step{Kind: api.Tick, Value: 1<<64 - 1}},
		{"write d 0x0 0 0x0", api.Step{Kind: api.Write}},
		{"write both 0xabcdef 8 0xffffffffffffffff", api.Step{Kind: api.Write, Number: 2, At: 0xabcdef, Width: 8, Value: 1<<64 - 1}},
		{"dma load load 0x10 2147483647", api.Step{Kind: api.Dma, Number: 1, Access: api.Load, At: 16, Width: 1<<31 - 1}},
		{"dma d store 0xffffffffffffffff 3 0x1", api.Step{Kind: api.Dma, Access: api.Store, At: 1<<64 - 1, Width: 3, Value: 1}},
		{"irq both", api.Step{Kind: api.Irq}},
		{"irq do", api.Step{Kind: api.Irq, Number: 3}},
		{"do b.0 load 0x9 1", api.Step{Kind: api.Access, Subject: 1, Access: api.Load, At: 9, Width: 1}},
		{"do wait fetch 0x1000 4", api.Step{Kind: api.Access, Subject: 3, Access: api.Fetch, At: 0x1000, Width: 4}},
		{"do both store 0x9 2 0xa", api.Step{Kind: api.Access, Subject: 4, Access: api.Store, At: 9, Width: 2, Value: 10}},
		{"do a signal c.1.2", api.Step{Kind: api.Signal}},
		{"do b.0 signal tick", api.Step{Kind: api.Signal, Subject: 1, Number: 2}},
		{"do a poll 64", api.Step{Kind: api.Poll, Value: 64}},
		{"do wait wait", api.Step{Kind: api.Wait, Subject: 3}},
		{"do b.0 arm 18446744073709551615 18446744073709551614", api.Step{Kind: api.Arm, Subject: 1, At: 1<<64 - 1, Value: 1<<64 - 2}},
		{"do a status", api.Step{Kind: api.Status}},
		{"do both switch both", api.Step{Kind: api.Switch, Subject: 4, Number: 2}},
		{"do a switch 0", api.Step{Kind: api.Switch, Number: 3}},
		{"do a unmask q", api.Step{Kind: api.Unmask, Number: 1}},
	}
}

// text is lines, a newline behind each.
func text(lines ...string) []byte {
	return []byte(strings.Join(append(lines, ""), "\n"))
}

// holdScript holds what Parse reads of a text that is a script.
func holdScript(t *testing.T, p api.Policy, src string, want ...api.Step) {
	t.Helper()
	script, line, why := Parse(p, []byte(src))
	if why != api.OK || line != 0 || !slices.Equal(script, want) {
		t.Errorf("P19.1: %.200q: %+v, %d, %v, want %+v", src, script, line, why, want)
	}
}

// holdWrong holds that Parse refuses a text at a line.
func holdWrong(t *testing.T, p api.Policy, src string, want int) {
	t.Helper()
	script, line, why := Parse(p, []byte(src))
	if why != api.ErrScript || line != want || len(script) != 0 {
		t.Errorf("P19.1: %.200q: %d steps, %d, %v, want %d, %v", src, len(script), line, why, want, api.ErrScript)
	}
}

// holdPrinted holds how a script is printed, and that it is read so (P19.5).
func holdPrinted(t *testing.T, p api.Policy, want string, script ...api.Step) {
	t.Helper()
	out, why := Print(p, script)
	if why != api.OK || string(out) != want {
		t.Errorf("P19.2: %+v: %.200q, %v, want %.200q", script, out, why, want)
		return
	}
	if again, _, why := Parse(p, out); why != api.OK || !slices.Equal(again, script) {
		t.Errorf("P19.5: %+v: %.200q is read as %+v, %v", script, out, again, why)
	}
}

// holdNoForm holds that a script is not printed.
func holdNoForm(t *testing.T, what string, p api.Policy, script ...api.Step) {
	t.Helper()
	if out, why := Print(p, script); why != api.ErrForm || len(out) != 0 {
		t.Errorf("P19.2: %s: %+v: %.200q, %v, want %v", what, script, out, why, api.ErrForm)
	}
}

package fleet

import (
	"slices"
	"strings"
	"testing"

	"bulkhead/api"
	"bulkhead/boot"
	"bulkhead/bus"
	"bulkhead/flow"
	"bulkhead/forge"
	"bulkhead/kernel"
)

// The document's ten examples of the whole: those that are texts, by a fleet.
func TestTenExamples(t *testing.T) {
	two := "built 12 pages at 0x10a000|"
	var jobs []Job
	var want [][]byte
	for _, c := range []struct{ policy, script, want string }{
		{tiny, "", "built 1 pages at 0x0"},
		{"system a { plan p major 1 { } start p; }", "", "class 4 refused 110 at 1:1"},
		{"system a { ram 0 size 4K; region r size 4K; plan p major 1 { } start p; }", "", "class 4 refused 110 at 1:1"},
		{"system a { ram 0 size 8K; region r size 4K; plan p major 1 { } start p; }", "", "built 1 pages at 0x1000"},
		{"system a { region r size 4K; region r size 8K; }", "", "class 3 refused 81 at 1:30"},
		{family(2), "do s.0 store 0x10ffc 8 0x1122334455667788\ndo s.0 load 0x10fff 2", two + "ok|ok 0x4455"},
		{family(2), "do s.1 load 0x5000 1\ndo s.0 poll 1", two + "fault 41 at 0x5000|ok 0x1"},
		{family(2), "do s.0 switch night\ntick 640\ndo s.0 status", two + "ok|ok|ok plan 1 left 50 clock 640"},
		{family(2), "do s.0 fetch 0x1000 1", two + "ok 0x73"},
	} {
		jobs = append(jobs, job(c.policy, c.script))
		want = append(want, []byte(strings.ReplaceAll(c.want, "|", "\n")+"\n"))
	}
	holdServe(t, begin(t, 3), jobs, want)
}

// The others: who is current, who is heard, and no bit is believed.
func TestTenExamplesBelow(t *testing.T) {
	b, _ := forge.Compile(forge.Family(2))
	m, _ := bus.New(forge.Bus(b.Policy))
	k, err := kernel.Boot(m, b.Image)
	if err != nil {
		t.Fatal(err)
	}
	for _, c := range []struct {
		ticks uint64
		want  [3]int
	}{{0, [3]int{0, 1, -1}}, {10, [3]int{-1, -1, -1}}, {630, [3]int{0, 1, -1}}} {
		k.Step(api.Step{Kind: api.Tick, Value: c.ticks})
		if got := [3]int{k.Current(0), k.Current(1), k.Current(2)}; got != c.want {
			t.Errorf("W4: %d ticks on: %v, want %v", c.ticks, got, c.want)
		}
	}
	facts, why := flow.Facts(b.Policy)
	edges := []api.Edge{{From: 0, To: 1}, {From: 0, To: 2}, {From: 1, To: 0}, {From: 2, To: 0}, {From: 3, To: 0}}
	if why != api.OK || !slices.Equal(facts.Edges, edges) || !slices.Equal(flow.Src(facts, 3), []int{3}) {
		t.Errorf("W7: %+v, %v", facts, why)
	}
	b, _ = forge.Compile(forge.Family(1))
	for at := 0; at < len(b.Image); at += 13 {
		b.Image[at] ^= 1 << (at % 8)
		if _, err := boot.Check(forge.Bus(b.Policy), b.Image); err == nil {
			t.Errorf("W6: a bit of byte %d was turned, and believed", at)
		}
		b.Image[at] ^= 1 << (at % 8)
	}
}

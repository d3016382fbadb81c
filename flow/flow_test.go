package flow

import (
	"reflect"
	"slices"
	"testing"

	"bulkhead/api"
	"bulkhead/forge"
)

// The actors of the policies that lone writes.
const (
	a = iota
	b
	disk
	clock
)

// parts are what is written into lone's policy.
type parts map[string]string

// TestFamilyFacts: P17.1: the chapter's run.
func TestFamilyFacts(t *testing.T) {
	t.Parallel()
	want := api.Facts{Subjects: 2, Devices: 2, Irqs: []int{0}, Edges: edges(0, 1, 0, 2, 1, 0, 2, 0, 3, 0)}
	if f := facts(t, policy(t, string(forge.Family(2)))); !reflect.DeepEqual(f, want) {
		t.Errorf("P17.1: %+v", f)
	}
}

// TestEdges: P17.1: each kind of edge by itself, and what is none.
func TestEdges(t *testing.T) {
	t.Parallel()
	for what, c := range map[string]struct {
		parts parts
		want  []api.Edge
	}{
		"nothing":                             {nil, nil},
		"a region that one writes":            {parts{"a": "map r at 0 write;", "b": "map r at 0x9000;"}, edges(a, b)},
		"a region that both write":            {parts{"a": "map r at 0 write;", "b": "map r at 0x9000 write;"}, edges(a, b, b, a)},
		"a region that both read":             {parts{"a": "map r at 0;", "b": "map r at 0 exec;"}, nil},
		"a region that is mapped twice":       {parts{"a": "map r at 0; map r at 0x1000 write; map r at 0x2000;", "b": "map r at 0; map r at 0x2000;"}, edges(a, b)},
		"one's own region":                    {parts{"a": "map r at 0; map r at 0x1000 write;"}, nil},
		"two regions":                         {parts{"a": "map r at 0 write;", "b": "map full at 0;"}, nil},
		"a region that is fetched from":       {parts{"b": "map r at 0 exec;", "a": "map r at 0 write;"}, edges(a, b)},
		"dma, to a subject":                   {parts{"disk": "map r at 0 write;", "a": "map r at 0;"}, edges(disk, a)},
		"dma that reads, of a reader":         {parts{"disk": "map r at 0;", "a": "map r at 0;"}, nil},
		"dma that reads":                      {parts{"disk": "map r at 0;", "a": "map r at 0 write;"}, edges(a, disk)},
		"dma, both ways":                      {parts{"disk": "map r at 0 write;", "b": "map r at 0 write;"}, edges(b, disk, disk, b)},
		"a window that is read":               {parts{"b": "map clock at 0;"}, edges(clock, b)},
		"a window that is written":            {parts{"a": "map clock at 0 write;"}, edges(a, clock, clock, a)},
		"a window that one writes":            {parts{"a": "map disk at 0 write;", "b": "map disk at 0;"}, edges(a, b, a, disk, disk, a, disk, b)},
		"a window that both read":             {parts{"a": "map disk at 0;", "b": "map disk at 0;"}, edges(disk, a, disk, b)},
		"an irq":                              {parts{"more": "irq i from clock to b vector 0;"}, edges(clock, b)},
		"an irq that is masked":               {parts{"more": "irq i from disk to a vector 63 masked;"}, edges(disk, a)},
		"a bit":                               {parts{"more": "channel c from a to b vector 0;"}, edges(a, b)},
		"a reset":                             {parts{"more": "channel c from b to a reset;"}, edges(b, a)},
		"a stop":                              {parts{"more": "channel c from a to b stop;"}, edges(a, b)},
		"a start":                             {parts{"more": "channel c from b to a start;"}, edges(b, a)},
		"channels that say the same":          {parts{"more": "channel c from b to a start; channel d from b to a stop;"}, edges(b, a)},
		"a rule that tells":                   {parts{"a": "fault tell b vector 0;"}, edges(a, b)},
		"rules that don't":                    {parts{"a": "fault stop;", "b": "fault reset;"}, nil},
		"a master of two plans":               {parts{"more": "master b; plan q major 1 { }"}, edges(b, a)},
		"a master of one":                     {parts{"more": "master b;"}, nil},
		"a stopped one":                       {parts{"astop": "stopped", "more": "channel c from a to b vector 0;"}, edges(a, b)},
		"those who never run":                 {parts{"aruns": "", "bruns": "", "a": "fault tell b vector 0;"}, edges(a, b)},
		"the same, told by two kinds of edge": {parts{"a": "map r at 0 write;", "b": "map r at 0;", "more": "channel c from a to b over r vector 3;"}, edges(a, b)},
	} {
		f := facts(t, policy(t, lone(c.parts)))
		if f.Subjects != 2 || f.Devices != 2 || !slices.Equal(f.Edges, c.want) {
			t.Errorf("P17.1: %s: %+v, want %v", what, f, c.want)
		}
	}
}

// TestNamesAlike: P17.1: a subject, a device, a channel, an irq and a plan of
// one name are not taken for one another.
func TestNamesAlike(t *testing.T) {
	t.Parallel()
	p := policy(t, `system x { ram 0 size 1M; device y at 0xf0000000 size 4K; device x at 0xf0010000 size 4K dma { map z at 0 write; }
		region z size 4K; subject x cpu 0 { map y at 0; } subject y cpu 0 { } subject z cpu 0 { map z at 0; }
		irq x from x to y vector 1; irq y from y to z vector 1; irq z from x to z vector 1;
		channel y from x to z stop; plan x major 1 { } plan z major 1 { } start x; master z; }`)
	f := facts(t, p)
	if want := edges(0, 2, 2, 0, 2, 1, 3, 0, 3, 2, 4, 1, 4, 2); !slices.Equal(f.Edges, want) || !slices.Equal(f.Irqs, []int{1, 0, 1}) {
		t.Errorf("P17.1: %+v", f)
	}
}

// TestFactsRefused: P17.1, P17.6: what check refuses is ErrArg.
func TestFactsRefused(t *testing.T) {
	t.Parallel()
	for what, change := range map[string]func(*api.Policy){
		"no start":                 func(p *api.Policy) { p.Starts = nil },
		"no name":                  func(p *api.Policy) { p.Subjects[0].Name = "" },
		"a name that isn't":        func(p *api.Policy) { p.Irqs[0].From = "nobody" },
		"a channel to its own end": func(p *api.Policy) { p.Channels[0].To = p.Channels[0].From },
		"no master":                func(p *api.Policy) { p.Masters = nil },
		"everything":               func(p *api.Policy) { *p = api.Policy{} },
	} {
		p := policy(t, string(forge.Family(2)))
		change(&p)
		if f, why := Facts(p); why != api.ErrArg || !reflect.DeepEqual(f, api.Facts{}) {
			t.Errorf("P17.1, R3: %s: %+v, %v", what, f, why)
		}
		for _, ends := range edges(1, 0, -1, 0, 0, 7, 3, 1) {
			if x, y, why := Witness(p, ends.From, ends.To); why != api.ErrArg || x != nil || y != nil {
				t.Errorf("P17.6, R3: %s: %v, %v, %v", what, x, y, why)
			}
		}
	}
}

// TestSrc: P17.2: the chapter's runs, and the edges of what is an actor.
func TestSrc(t *testing.T) {
	t.Parallel()
	family := facts(t, policy(t, string(forge.Family(2))))
	two := api.Facts{Subjects: 1, Devices: 1}
	many := api.Facts{Subjects: 1<<63 - 1, Devices: 1<<63 - 1, Edges: edges(1<<21-1, 5, 1<<21, 5, 1<<63-1, 5, 7, 1<<21, 1<<21, 1<<21-1)}
	odd := api.Facts{Subjects: 3, Edges: edges(0, 1, -1, 1, 0, -1, 2, 3, 3, 0, 1, 1, 0, 1)}
	for n, c := range []struct {
		f    api.Facts
		v    int
		want []int
	}{
		{family, 0, []int{0, 1, 2, 3}}, {family, 1, []int{0, 1, 2, 3}}, {family, 2, []int{0, 1, 2, 3}}, {family, 3, []int{3}},
		{family, 4, nil}, {family, -1, nil}, {family, 1<<63 - 1, nil}, {family, -1 << 63, nil},
		{api.Facts{Subjects: 1}, 0, []int{0}}, {api.Facts{}, 0, nil}, {api.Facts{Devices: 1}, 0, []int{0}},
		{two, 0, []int{0}}, {two, 1, []int{1}}, {two, 2, nil},
		{api.Facts{Subjects: -3, Devices: 2}, 1, []int{1}}, {api.Facts{Subjects: -3, Devices: 2}, 2, nil},
		{api.Facts{Subjects: 2, Devices: -1}, 1, []int{1}}, {api.Facts{Subjects: 2, Devices: -1}, 2, nil},
		{api.Facts{Subjects: -1 << 63, Devices: -1 << 63}, 0, nil},
		{api.Facts{Subjects: 1 << 20}, 1<<20 - 1, []int{1<<20 - 1}}, {api.Facts{Subjects: 1<<20 + 1}, 1 << 20, nil},
		{api.Facts{Devices: 1<<20 + 1}, 1 << 20, nil}, {api.Facts{Subjects: 1 << 40, Devices: 1}, 1 << 20, []int{1 << 20}},
		{many, 5, []int{5, 1<<21 - 1}}, {many, 1<<21 - 1, []int{1<<21 - 1}}, {many, 1 << 21, nil},
		{odd, 1, []int{0, 1}}, {odd, 0, []int{0}}, {odd, 2, []int{2}}, {odd, 3, nil},
	} {
		if got := Src(c.f, c.v); !slices.Equal(got, c.want) {
			t.Errorf("P17.2: row %d, of %d: %v, want %v", n, c.v, got, c.want)
		}
	}
}

// TestLongWay: P17.2, R1: a way through as many actors as there can be.
func TestLongWay(t *testing.T) {
	t.Parallel()
	f := api.Facts{Subjects: 1 << 18, Devices: 1 << 18}
	for n := range 1<<19 - 1 {
		f.Edges = append(f.Edges, api.Edge{From: n, To: n + 1})
	}
	for _, v := range []int{1<<19 - 1, 1 << 18, 1} {
		got := Src(f, v)
		if len(got) != v+1 || got[0] != 0 || got[v] != v {
			t.Errorf("P17.2: of %d: %d actors", v, len(got))
		}
	}
}

// TestOf: P17.3: whose a step is.
func TestOf(t *testing.T) {
	t.Parallel()
	f := api.Facts{Subjects: 3, Devices: 2, Irqs: []int{1, 0, 2, -1, 1<<63 - 1, -1 << 63}}
	var want []int
	hold := func(s api.Step, want int) {
		t.Helper()
		if got := Of(f, s); got != want {
			t.Errorf("P17.3: %+v of %d and %d: %d, want %d", s, f.Subjects, f.Devices, got, want)
		}
	}
	for kind := -2; kind < 15; kind++ {
		for n := -1; n < 7; n++ {
			switch {
			case kind >= api.Access && kind <= api.Unmask:
				want = []int{-1, 0, 1, 2, -1, -1, -1, -1}
			case kind == api.Write || kind == api.Dma:
				want = []int{-1, 3, 4, -1, -1, -1, -1, -1}
			case kind == api.Irq:
				want = []int{-1, 4, 3, -1, -1, -1, -1, -1}
			default:
				want = []int{-1, -1, -1, -1, -1, -1, -1, -1}
			}
			s := api.Step{Kind: kind, Number: n, Subject: -5}
			if kind >= api.Access {
				s.Number, s.Subject = -5, n
			}
			hold(s, want[n+1])
		}
	}
	for _, far := range []int{1 << 20, 1<<63 - 1, -1 << 63} {
		hold(api.Step{Kind: api.Write, Number: far}, -1)
		hold(api.Step{Kind: api.Irq, Number: far}, -1)
		hold(api.Step{Kind: api.Wait, Subject: far}, -1)
		hold(api.Step{Kind: far}, -1)
	}
	f = api.Facts{Subjects: -4, Devices: 1<<63 - 1, Irqs: []int{1<<20 - 1, 1 << 20}}
	hold(api.Step{Kind: api.Wait}, -1)
	hold(api.Step{Kind: api.Dma}, 0)
	hold(api.Step{Kind: api.Dma, Number: 1<<20 - 1}, 1<<20-1)
	hold(api.Step{Kind: api.Dma, Number: 1 << 20}, -1)
	hold(api.Step{Kind: api.Irq}, 1<<20-1)
	hold(api.Step{Kind: api.Irq, Number: 1}, -1)
	f = api.Facts{Subjects: 1 << 30, Devices: 1, Irqs: []int{0}}
	hold(api.Step{Kind: api.Poll, Subject: 1<<20 - 1}, 1<<20-1)
	hold(api.Step{Kind: api.Poll, Subject: 1 << 20}, -1)
	hold(api.Step{Kind: api.Write}, 1<<20)
	hold(api.Step{Kind: api.Irq}, 1<<20)
	f = api.Facts{Subjects: 2, Devices: -1, Irqs: []int{0}}
	hold(api.Step{Kind: api.Write}, -1)
	hold(api.Step{Kind: api.Irq}, -1)
}

// TestPurge: P17.4: the steps that are left, of an actor and of none.
func TestPurge(t *testing.T) {
	t.Parallel()
	f := facts(t, policy(t, string(forge.Family(2))))
	script := []api.Step{
		{Kind: api.Tick, Value: 5}, {Kind: api.Wait, Subject: 1}, {Kind: api.Dma, Number: 1}, {Kind: api.Irq}, {Kind: api.Irq, Number: 1},
		{Kind: api.Wait, Subject: 2}, {Kind: 44}, {Kind: api.Write, Number: 1, Value: 3}, {Kind: api.Write, Number: 2}, {Kind: api.Wait},
	}
	some := func(which ...int) []api.Step {
		var out []api.Step
		for _, n := range which {
			out = append(out, script[n])
		}
		return out
	}
	for v, want := range map[int][]api.Step{0: script, 1: script, 2: script, 3: some(0, 2, 4, 5, 6, 7, 8), 4: some(0, 4, 5, 6, 8), -1: some(0, 4, 5, 6, 8)} {
		if got := Purge(f, script, v); !slices.Equal(got, want) {
			t.Errorf("P17.4: to %d: %v, want %v", v, got, want)
		}
	}
	if got := Purge(f, nil, 0); len(got) != 0 {
		t.Errorf("P17.4: of no script: %v", got)
	}
	lonely := api.Facts{Subjects: 2}
	own := []api.Step{{Kind: api.Poll, Subject: 1}, {Kind: api.Poll}, {Kind: api.Tick}, {Kind: api.Write}}
	if got := Purge(lonely, own, 1); !slices.Equal(got, []api.Step{own[0], own[2], own[3]}) {
		t.Errorf("P17.4: to one that hears nobody: %v", got)
	}
}

// TestDiff: P17.5: what is gone and what has come, whatever the numbers are.
func TestDiff(t *testing.T) {
	t.Parallel()
	for n, c := range []struct{ old, late, gone, come []api.Edge }{
		{nil, nil, nil, nil},
		{edges(2, 1, 0, 1, 2, 1), edges(0, 1, 9, 9, 3, 0), edges(2, 1), edges(3, 0, 9, 9)},
		{edges(1, 2), edges(2, 1), edges(1, 2), edges(2, 1)},
		{edges(1, 2, 1, 1, 0, 7, 1, -1), nil, edges(0, 7, 1, -1, 1, 1, 1, 2), nil},
		{nil, edges(1<<63-1, 0, -1<<63, 0, 0, 1<<63-1, 0, -1<<63), nil, edges(-1<<63, 0, 0, -1<<63, 0, 1<<63-1, 1<<63-1, 0)},
		{edges(5, 5, 5, 5), edges(5, 5), nil, nil},
	} {
		gone, come := Diff(api.Facts{Edges: c.old}, api.Facts{Subjects: 3, Irqs: []int{4}, Edges: c.late})
		if !slices.Equal(gone, c.gone) || !slices.Equal(come, c.come) {
			t.Errorf("P17.5: row %d: %v, %v", n, gone, come)
		}
	}
	with := facts(t, policy(t, lone(parts{"more": "channel c from a to b stop;"})))
	gone, come := Diff(with, facts(t, policy(t, lone(nil))))
	if !slices.Equal(gone, edges(a, b)) || len(come) != 0 {
		t.Errorf("P17.5: a channel less: %v, %v", gone, come)
	}
}

package flow

import (
	"testing"

	"bulkhead/api"
	"bulkhead/forge"
)

// TestFamilyWitness: P17.6: the chapter's runs, and all that a greater family
// has.
func TestFamilyWitness(t *testing.T) {
	t.Parallel()
	p := policy(t, string(forge.Family(2)))
	for _, c := range []struct {
		u, s int
		want api.Errno
	}{
		{1, 0, api.OK}, {2, 0, api.OK}, {3, 0, api.OK}, {0, 1, api.OK}, {3, 1, api.ErrEdge}, {2, 1, api.ErrEdge}, {0, 0, api.ErrEdge}, {1, 1, api.ErrEdge},
		{0, 2, api.ErrActor}, {0, 3, api.ErrActor}, {2, 2, api.ErrActor}, {0, 4, api.ErrActor}, {0, -1, api.ErrActor}, {-1, 0, api.ErrActor}, {4, 0, api.ErrActor},
		{1<<63 - 1, 0, api.ErrActor}, {0, 1<<63 - 1, api.ErrActor}, {-1 << 63, 0, api.ErrActor}, {0, -1 << 63, api.ErrActor},
	} {
		holdAnswer(t, "the family", p, c.u, c.s, c.want)
	}
	p = policy(t, string(forge.Family(9)))
	for u := range 11 {
		for s := range 9 {
			holdAnswer(t, "a greater family", p, u, s, refused(p, u, s))
		}
	}
}

// holdAnswer holds what Witness answers, and that what it tells is one.
func holdAnswer(t testing.TB, what string, p api.Policy, u, s int, want api.Errno) {
	t.Helper()
	x, y, why := Witness(p, u, s)
	if why != want {
		t.Errorf("P17.6: %s: of %d and %d: %v, want %v", what, u, s, why, want)
	}
	switch {
	case why == api.OK:
		holdWitness(t, what, p, u, s, x, y)
	case len(x) > 0 || len(y) > 0:
		t.Errorf("P17.6, R3: %s: %v, %v beside %v", what, x, y, why)
	}
}

// TestWitnesses: P17.6, W3: each kind of edge by itself, whoever of the two
// comes first in the major frame, and on two CPUs.
func TestWitnesses(t *testing.T) {
	t.Parallel()
	for what, c := range map[string]struct {
		parts parts
		u, s  int
	}{
		"a region of zeros":             {parts{"a": "map r at 0 write;", "b": "map r at 0x9000;"}, a, b},
		"a region, the other way":       {parts{"b": "map r at 0 write;", "a": "map r at 0x9000 exec;"}, b, a},
		"a text":                        {parts{"a": "map text at 0 write;", "b": "map text at 0;"}, a, b},
		"an empty text":                 {parts{"a": "map empty at 0 write;", "b": "map empty at 0;"}, a, b},
		"a fill":                        {parts{"a": "map full at 0 write;", "b": "map full at 0x7000;"}, a, b},
		"a big region":                  {parts{"a": "map large at 2M write;", "b": "map large at 0;"}, a, b},
		"the last addresses":            {parts{"a": "map r at 0x7ffffff000 write;", "b": "map r at 0x7ffffff000;"}, a, b},
		"many mappings":                 {parts{"a": "map own at 0; map text at 0x8000 write; map r at 0x1000; map r at 0x2000 write;", "b": "map full at 0; map r at 0x7000; map r at 0x8000 write;"}, a, b},
		"dma":                           {parts{"disk": "map r at 0; map r at 0x9000 write;", "a": "map r at 0;"}, disk, a},
		"dma into a fill":               {parts{"disk": "map full at 0x6000 write;", "b": "map full at 0;"}, disk, b},
		"a window from its own side":    {parts{"b": "map clock at 0;"}, clock, b},
		"a window that one writes":      {parts{"a": "map disk at 0 write;", "b": "map disk at 0x3000;"}, a, b},
		"an irq":                        {parts{"more": "irq j from disk to b vector 1; irq k from clock to a vector 1; irq i from clock to b vector 0;"}, clock, b},
		"an irq that is masked":         {parts{"more": "irq i from disk to a vector 63 masked;"}, disk, a},
		"a bit":                         {parts{"more": "channel d from b to a vector 1; channel c from a to b vector 63;"}, a, b},
		"a reset":                       {parts{"more": "channel c from b to a reset;"}, b, a},
		"a stop":                        {parts{"more": "channel c from a to b stop;"}, a, b},
		"a start of one that runs":      {parts{"more": "channel c from b to a start;"}, b, a},
		"a start of a stopped one":      {parts{"astop": "stopped", "more": "channel c from b to a start;"}, b, a},
		"a start of one with the rest":  {parts{"bstop": "stopped", "a": "map r at 0 write; fault tell b vector 1;", "b": "map r at 0;", "more": "channel f from a to b reset; channel c from a to b stop; channel d from a to b vector 1; channel e from a to b start; master a; plan q major 1 { }"}, a, b},
		"a rule":                        {parts{"a": "fault tell b vector 7;"}, a, b},
		"a rule, all being mapped":      {parts{"b": "fault tell a vector 7; map r at 0; map own at 0x7ffffff000;"}, b, a},
		"a master":                      {parts{"more": "master b; plan q major 1 { }"}, b, a},
		"a master, the same plan twice": {parts{"more": "master b; plan q major 10 { cpu 0 { idle 1; run a 2; run b 3; } }"}, b, a},
		"a master, of the second plan":  {parts{"more": "master a; plan q major 7 { cpu 0 { run b 1; idle 2; run a 4; } }", "start": "q"}, a, b},
	} {
		holdAnswer(t, what, policy(t, lone(c.parts)), c.u, c.s, api.OK)
		for name, turned := range map[string]parts{
			"the other one first": {"aruns": "run b 3;", "bruns": "run a 2;"},
			"two CPUs":            {"bcpu": "3", "bruns": "", "lane": "cpu 3 { run b 10; }"},
			"needs":               {"bcpu": "1", "bruns": "", "lane": "cpu 1 needs { need b 1 every 5; }"},
		} {
			if _, ok := c.parts["start"]; ok {
				continue
			}
			for key, part := range c.parts {
				turned[key] = part
			}
			if name != "the other one first" && what == "a master, the same plan twice" {
				continue
			}
			holdAnswer(t, what+", "+name, policy(t, lone(turned)), c.u, c.s, api.OK)
		}
	}
}

// TestShortFrame: P17.6: everybody at every tick.
func TestShortFrame(t *testing.T) {
	t.Parallel()
	p := policy(t, `system x { ram 0 size 1M; subject a cpu 0 { } subject b cpu 1 { } channel c from a to b reset; channel d from b to a vector 3;
		plan p major 1 { cpu 0 { run a 1; } cpu 1 { run b 1; } } start p; }`)
	holdAnswer(t, "a major of 1", p, 0, 1, api.OK)
	holdAnswer(t, "a major of 1", p, 1, 0, api.OK)
	p.Plans[0].Major = 65536
	p.Plans[0].Lanes[0].Runs = []api.Run{{Budget: 65535}, {Subject: "a", Budget: 1}}
	holdAnswer(t, "a major of 65536", p, 0, 1, api.OK)
	holdAnswer(t, "a major of 65536", p, 1, 0, api.OK)
}

// TestWitnessRefused: P17.6: each refusal, and their order.
func TestWitnessRefused(t *testing.T) {
	t.Parallel()
	tie := "channel c from a to b stop; irq i from clock to b vector 1;"
	for what, c := range map[string]struct {
		parts parts
		u, s  int
		want  api.Errno
	}{
		"no edge":                                 {nil, a, b, api.ErrEdge},
		"the edge is the other way":               {parts{"more": tie}, b, a, api.ErrEdge},
		"no edge, nobody runs, all are stopped":   {parts{"aruns": "", "bruns": "", "astop": "stopped", "bstop": "stopped"}, a, b, api.ErrEdge},
		"itself":                                  {parts{"a": "map r at 0 write;", "more": "master a; plan q major 1 { }"}, a, a, api.ErrEdge},
		"a way of two edges":                      {parts{"more": "irq i from clock to a vector 1; channel c from a to b stop;"}, clock, b, api.ErrEdge},
		"a device, as the one that hears":         {parts{"a": "map clock at 0 write;"}, a, clock, api.ErrActor},
		"the writer never runs":                   {parts{"aruns": "", "more": tie}, a, b, api.ErrTurn},
		"the reader never runs":                   {parts{"bruns": "", "more": tie}, a, b, api.ErrTurn},
		"the reader of a device never runs":       {parts{"bruns": "", "more": tie}, clock, b, api.ErrTurn},
		"there is no such lane":                   {parts{"bcpu": "2", "bruns": "", "more": tie}, a, b, api.ErrTurn},
		"the reader runs in another plan":         {parts{"bruns": "", "more": tie + "master a; plan q major 9 { cpu 0 { run b 9; } }"}, a, b, api.ErrTurn},
		"never runs, and is stopped":              {parts{"aruns": "", "astop": "stopped", "more": tie}, a, b, api.ErrTurn},
		"never runs, and the other is stopped":    {parts{"bruns": "", "astop": "stopped", "more": tie}, a, b, api.ErrTurn},
		"the writer is stopped":                   {parts{"astop": "stopped", "more": tie}, a, b, api.ErrStopped},
		"the reader is stopped":                   {parts{"bstop": "stopped", "more": tie}, a, b, api.ErrStopped},
		"the reader of a device is stopped":       {parts{"bstop": "stopped", "more": tie + "channel d from a to b start;"}, clock, b, api.ErrStopped},
		"the stopped writer would start it":       {parts{"astop": "stopped", "more": "channel d from a to b start;"}, a, b, api.ErrStopped},
		"the reader would start the writer":       {parts{"bstop": "stopped", "more": "channel d from b to a start;" + tie}, a, b, api.ErrStopped},
		"a reset, of one that is stopped":         {parts{"bstop": "stopped", "more": "channel d from a to b reset;"}, a, b, api.ErrStopped},
		"a device, whose number is a stopped one": {parts{"astop": "stopped", "more": tie}, clock, b, api.OK},
	} {
		holdAnswer(t, what, policy(t, lone(c.parts)), c.u, c.s, c.want)
	}
}

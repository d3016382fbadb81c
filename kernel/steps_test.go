package kernel

import (
	"testing"

	"bulkhead/api"
	"bulkhead/forge"
)

// whole has something of all that a policy may have. a runs on CPU 0, b and c
// by turns on CPU 1, n on CPU 2.
const whole = `system whole {
	ram 0x100000 size 1M; ram 0x200000 size 4M;
	device d at 0xf0000000 size 8K dma { map shared at 0x3000 write; map wide at 2M; map own at 0x4000; }
	device e at 0xf0002000 size 4K;
	region code size 4K fill "code";
	region own size 8K fill 7;
	region shared size 4K fill "ab";
	region wide size 2M big wx fill "wide";
	region only size 8K fill 3;
	subject a cpu 0 {
		map code at 0x1000 exec; map own at 0x2000 write; map shared at 0x4000;
		map d at 0x10000 write; map wide at 4M write exec; map e at 0x12000;
		fault tell b vector 9;
	}
	subject b cpu 1 { map shared at 0 write; map only at 0x1000; map only at 0x8000 write; map e at 0x40000000 write; fault reset; }
	subject c cpu 1 stopped { map wide at 1 << 30; fault stop; }
	subject n cpu 2 { map code at (1 << 39) - 4K; }
	channel ping from a to b vector 5;
	channel again from a to b reset;
	channel halt from a to b stop;
	channel go from a to b start;
	channel wake from n to c start;
	channel pong from b to a vector 63;
	channel quiet from b to n stop;
	irq plain from d to a vector 0;
	irq once from d to b vector 62 masked;
	irq also from e to b vector 62;
	plan p major 12 {
		cpu 0 { run a 6; idle 1; run a 5; }
		cpu 1 { run b 8; run c 4; }
		cpu 2 needs { need n 1 every 2; }
	}
	plan q major 5 { cpu 0 { idle 1; run a 2; } cpu 1 { run c 5; } }
	master a; start p;
}`

// TestRuns: the chapter's runs, each of a new kernel.
func TestRuns(t *testing.T) {
	t.Parallel()
	for what, rows := range map[string][]row{
		"a store over two pages": {{store(0, 0x10ffc, 8, 0x1122334455667788), fine}, {load(0, 0x10fff, 2), value(0x4455)}},
		"a store that goes beyond": {
			{store(0, 0x11ffc, 8, 1<<64-1), fault(api.ErrAbsent, 0x12000)}, {load(0, 0x11ffc, 4), fine},
		},
		"a store to the buffer": {{store(0, 0x20000, 1, 1), fault(api.ErrWrite, 0x20000)}},
		"a fetch":               {{fetch(0, 0x1000, 1), value(0x73)}},
		"a hole":                {{fetch(0, 1<<64-1, 4), fault(api.ErrHole, 1<<64-1)}},
		"who is told":           {{poll(0, 1), fine}, {load(1, 0x5000, 1), fault(api.ErrAbsent, 0x5000)}, {poll(0, 1), value(1)}, {poll(0, 1), fine}},
		"three bytes":           {{load(1, 0x5000, 3), fault(api.ErrWidth, 0x5000)}, {poll(0, 1), fine}},
		"not its turn":          {{tick(10), fine}, {wait(0), no(api.ErrTurn)}},
		"an irq": {
			{irq(0), fine}, {irq(0), fine}, {poll(0, 62), value(1)}, {unmask(0, 0), fine}, {poll(0, 62), value(1)},
			{poll(0, 62), fine}, {irq(0), fine}, {poll(0, 62), fine}, {unmask(0, 0), fine}, {poll(0, 62), value(1)},
		},
		"another plan": {
			{change(0, 1), fine}, {status(0), api.Result{At: 10}}, {tick(639), fine}, {status(0), no(api.ErrTurn)},
			{tick(1), fine}, {status(0), api.Result{Value: 1, At: 50, Clock: 640}},
		},
		"asleep":  {{wait(1), fine}, {poll(1, 0), no(api.ErrAsleep)}, {signal(0, 0), no(api.ErrChannel)}},
		"a timer": {{arm(0, 5, 7), fine}, {tick(4), fine}, {poll(0, 7), fine}, {tick(1), fine}, {poll(0, 7), value(1)}},
	} {
		k, _ := up(t, string(forge.Family(2)))
		play(t, what, k, rows...)
	}
	k, _ := up(t, string(forge.Family(2)))
	play(t, "all ticks", k, row{tick(1<<64 - 1), fine})
	if k.Offset() != 255 || k.Plan() != 0 || k.Clock() != 1<<64-1 {
		t.Errorf("P16.5: offset %d, plan %d, clock %d", k.Offset(), k.Plan(), k.Clock())
	}
	was := sees(k)
	if play(t, "no tick", k, row{tick(0), fine}); sees(k) != was {
		t.Error("P16.2: Tick 0 has changed something")
	}
}

// TestAccess: P16.2: each kind of access, its refusals in their order.
func TestAccess(t *testing.T) {
	t.Parallel()
	odd := func(access int, at uint64, width int) api.Step {
		return api.Step{Kind: api.Access, Access: access, At: at, Width: width}
	}
	k, _ := up(t, whole)
	var rows []row
	for _, access := range []int{0, -1, 4, 1 << 40} {
		rows = append(rows, row{odd(access, 0x2000, 8), fault(api.ErrArg, 0x2000)}, row{odd(access, 1<<64-1, 3), fault(api.ErrArg, 1<<64-1)})
	}
	for _, width := range []int{0, -1, 3, 5, 6, 7, 9, 16, 1 << 40} {
		for access := api.Load; access <= api.Fetch; access++ {
			rows = append(rows, row{odd(access, 0x2000, width), fault(api.ErrWidth, 0x2000)}, row{odd(access, 1<<40, width), fault(api.ErrWidth, 1<<40)})
		}
	}
	rows = append(rows, row{poll(1, 9), fine})
	play(t, "no access", k, rows...)
	play(t, "what may be", k,
		row{fetch(0, 0x1000, 4), value('c' | 'o'<<8 | 'd'<<16 | 'e'<<24)}, row{load(0, 0x1ffc, 8), value(0x0707070700000000)},
		row{load(0, 0x3ffe, 4), value(0x0707 | 'a'<<16 | 'b'<<24)}, row{store(0, 0x2fff, 2, 0xabcdef), fine}, row{load(0, 0x2ffe, 4), value(0x07cdef07)},
		row{store(0, 4<<20, 8, 0x0102030405060708), fine}, row{fetch(0, 4<<20+1, 2), value(0x0607)}, row{load(0, 6<<20-8, 8), fine},
		row{store(0, 0x11ffe, 2, 0xbeef), fine}, row{load(0, 0x11fff, 2), value(0xbe)})
	play(t, "what may not be", k,
		row{fetch(0, 0x1ffd, 4), fault(api.ErrExec, 0x2000)}, row{store(0, 0x3fff, 2, 1), fault(api.ErrWrite, 0x4000)}, row{load(0, 0x3fff, 1), value(7)},
		row{store(0, 0x11ffc, 8, 0), fault(api.ErrWrite, 0x12000)}, row{load(0, 0x11ffe, 2), value(0xbeef)},
		row{load(0, 0xfff, 2), fault(api.ErrAbsent, 0xfff)}, row{store(0, 0x4ffe, 8, 0), fault(api.ErrWrite, 0x4ffe)}, row{load(0, 6<<20-1, 2), fault(api.ErrAbsent, 6<<20)},
		row{load(0, 1<<39, 1), fault(api.ErrHole, 1<<39)}, row{load(0, 1<<39-1, 1), fault(api.ErrAbsent, 1<<39-1)})
	play(t, "at the last address", k, row{load(3, 1<<39-4, 4), fine}, row{load(3, 1<<39-1, 2), fault(api.ErrHole, 1<<39)})
}

// TestRules: P16.2: what a fault does, of each rule.
func TestRules(t *testing.T) {
	t.Parallel()
	k, _ := up(t, whole)
	play(t, "tell", k, row{wait(1), fine}, row{wait(1), no(api.ErrAsleep)}, row{load(0, 0, 1), fault(api.ErrAbsent, 0)}, row{wait(1), value(1 << 9)},
		row{load(0, 0, 1), fault(api.ErrAbsent, 0)}, row{poll(1, 9), value(1)}, row{poll(1, 9), fine}, row{load(0, 0x1000, 1), value('c')})
	play(t, "none", k, row{store(3, 1<<39-1, 1, 1), fault(api.ErrWrite, 1<<39-1)}, row{load(3, 1<<39-4096, 1), value('c')})
	play(t, "reset", k, row{store(1, 0, 1, 'z'), fine}, row{load(1, 0x7fff, 1), fault(api.ErrAbsent, 0x7fff)}, row{load(1, 0, 2), value('a' | 'b'<<8)},
		row{store(1, 0, 1, 'z'), fine}, row{load(1, 0, 5), fault(api.ErrWidth, 0)}, row{load(1, 0, 1), value('z')})
	play(t, "stop", k, row{signal(3, 4), fine}, row{tick(8), fine}, row{load(2, 1<<30, 4), value('w' | 'i'<<8 | 'd'<<16 | 'e'<<24)},
		row{load(2, 1<<30, 7), fault(api.ErrWidth, 1<<30)}, row{store(2, 1<<30, 1, 0), fault(api.ErrWrite, 1<<30)}, row{status(2), no(api.ErrStopped)})
	// A device's faults have no rule.
	k, _ = up(t, whole)
	play(t, "a device", k, row{dma(0, api.Load, 0, 1, 0), fault(api.ErrAbsent, 0)}, row{poll(1, 9), fine}, row{wait(0), fine})
}

// TestWrite: P16.2: from a device's side, refusals in their order.
func TestWrite(t *testing.T) {
	t.Parallel()
	k, m := up(t, whole)
	for _, number := range []int{-1, 2, 1 << 40, -1 << 63} {
		play(t, "no device", k, row{write(number, 1<<40, 3, 0), no(api.ErrDevice)})
	}
	for _, width := range []int{0, -1, 3, 5, 7, 16, 1 << 40} {
		play(t, "no width", k, row{write(0, 1<<40, width, 0), no(api.ErrWidth)}, row{write(1, 0, width, 0), no(api.ErrWidth)})
	}
	for _, at := range []uint64{8185, 8191, 8192, 1 << 40, 1<<64 - 1, 1<<64 - 7, 1<<64 - 8} {
		play(t, "beyond", k, row{write(0, at, 8, 1<<64-1), no(api.ErrBound)})
	}
	play(t, "beyond", k, row{write(1, 4096, 1, 1), no(api.ErrBound)}, row{write(1, 4093, 4, 1), no(api.ErrBound)}, row{write(0, 1<<64-1, 1, 1), no(api.ErrBound)})
	if m.Kept() == 0 || m.Strays() != 0 {
		t.Errorf("P16.6: %d strays", m.Strays())
	}
	play(t, "within", k, row{load(0, 0x10000, 8), fine}, row{load(0, 0x11ff8, 8), fine}, row{load(0, 0x12000, 8), fine},
		row{write(0, 8184, 8, 0x1122334455667788), fine}, row{load(0, 0x11ffc, 8), value(0x11223344)},
		row{write(1, 0, 2, 0xabcdef), fine}, row{load(0, 0x11ffe, 4), value(0xcdef1122)}, row{write(0, 4095, 2, 0x0102), fine}, row{load(0, 0x10ffe, 4), value(0x010200)},
		row{write(1, 4095, 1, 0x1ff), fine}, row{load(0, 0x12fff, 1), value(0xff)})
}

// TestDma: P16.2: a device's own space, and none.
func TestDma(t *testing.T) {
	t.Parallel()
	k, _ := up(t, whole)
	for _, number := range []int{-1, 2, 1 << 40} {
		play(t, "no device", k, row{dma(number, 9, 1<<40, 3, 0), no(api.ErrDevice)})
	}
	play(t, "its space", k, row{dma(0, api.Load, 0x3000, 2, 9), value('a' | 'b'<<8)}, row{dma(0, api.Store, 0x3001, 1, 'x'), fine}, row{load(1, 0, 2), value('a' | 'x'<<8)},
		row{dma(0, api.Load, 0x3ffe, 4, 0), value(0x07070000)}, row{dma(0, api.Store, 0x3ffe, 4, 1<<32-1), fault(api.ErrWrite, 0x4000)}, row{load(1, 0xffe, 2), fine},
		row{dma(0, api.Load, 2<<20, 1, 0), value('w')}, row{dma(0, api.Fetch, 2<<20, 1, 0), fault(api.ErrExec, 2<<20)}, row{dma(0, api.Fetch, 0, 1, 0), fault(api.ErrAbsent, 0)},
		row{dma(0, api.Load, 4<<20-1, 2, 0), fault(api.ErrAbsent, 4<<20)}, row{dma(0, api.Load, 1<<39, 1, 0), fault(api.ErrHole, 1<<39)})
	for number := range 2 {
		play(t, "no access", k, row{dma(number, 0, 0x3000, 8, 0), fault(api.ErrArg, 0x3000)}, row{dma(number, 4, 1<<40, 3, 0), fault(api.ErrArg, 1<<40)},
			row{dma(number, api.Load, 0x3000, 3, 0), fault(api.ErrWidth, 0x3000)}, row{dma(number, api.Store, 1<<40, 0, 0), fault(api.ErrWidth, 1<<40)})
	}
	for access := api.Load; access <= api.Fetch; access++ {
		play(t, "no space", k, row{dma(1, access, 0, 8, 1), fault(api.ErrAbsent, 0)}, row{dma(1, access, 1<<39-1, 2, 1), fault(api.ErrAbsent, 1<<39-1)},
			row{dma(1, access, 1<<39, 1, 1), fault(api.ErrHole, 1<<39)}, row{dma(1, access, 1<<64-1, 8, 1), fault(api.ErrHole, 1<<64-1)})
	}
	// A device has no turn: it reaches its space while nobody runs.
	play(t, "any time", k, row{tick(6), fine}, row{dma(0, api.Load, 0x3000, 2, 9), value('a' | 'x'<<8)})
}

// TestIrqs: P16.2: delivered, masked, latched, unmasked.
func TestIrqs(t *testing.T) {
	t.Parallel()
	k, _ := up(t, whole)
	for _, number := range []int{-1, 3, 1 << 40} {
		play(t, "no irq", k, row{irq(number), no(api.ErrIrq)}, row{unmask(0, number), no(api.ErrIrq)})
	}
	play(t, "another one's", k, row{unmask(0, 1), no(api.ErrIrq)}, row{unmask(1, 0), no(api.ErrIrq)})
	play(t, "not masked", k, row{irq(0), fine}, row{poll(0, 0), value(1)}, row{irq(0), fine}, row{irq(0), fine}, row{poll(0, 0), value(1)}, row{poll(0, 0), fine},
		row{unmask(0, 0), fine}, row{poll(0, 0), fine}, row{wait(0), fine}, row{wait(0), no(api.ErrAsleep)}, row{irq(0), fine}, row{wait(0), value(1)})
	play(t, "masked", k, row{unmask(1, 1), fine}, row{poll(1, 62), fine}, row{irq(1), fine}, row{poll(1, 62), value(1)},
		row{irq(1), fine}, row{poll(1, 62), fine}, row{irq(1), fine}, row{unmask(1, 1), fine}, row{poll(1, 62), value(1)},
		row{unmask(1, 1), fine}, row{poll(1, 62), fine}, row{irq(1), fine}, row{poll(1, 62), value(1)}, row{unmask(1, 1), fine}, row{poll(1, 62), fine})
	// What is latched wakes nobody, until it is delivered; another irq of the
	// same vector is not masked with it.
	play(t, "latched", k, row{irq(1), fine}, row{poll(1, 62), value(1)}, row{wait(1), fine}, row{irq(1), fine}, row{wait(1), no(api.ErrAsleep)},
		row{irq(2), fine}, row{poll(1, 62), value(1)}, row{unmask(1, 2), fine}, row{poll(1, 62), fine}, row{unmask(1, 1), fine}, row{wait(1), value(1 << 62)})
	// A reset leaves masks as they are.
	play(t, "reset", k, row{signal(0, 1), fine}, row{poll(1, 62), fine}, row{irq(1), fine}, row{poll(1, 62), fine}, row{unmask(1, 1), fine}, row{poll(1, 62), value(1)})
}

// TestSignals: P16.2: whose channel it is, and each effect.
func TestSignals(t *testing.T) {
	t.Parallel()
	k, _ := up(t, whole)
	for _, number := range []int{-1, 7, 1 << 40, 4, 5, 6} {
		play(t, "no channel of its own", k, row{signal(0, number), no(api.ErrChannel)})
	}
	play(t, "a vector", k, row{signal(0, 0), fine}, row{wait(1), value(1 << 5)}, row{poll(1, 5), value(1)}, row{wait(1), fine}, row{poll(1, 5), no(api.ErrAsleep)},
		row{signal(0, 0), fine}, row{signal(0, 0), fine}, row{poll(1, 5), value(1)}, row{poll(1, 5), fine}, row{signal(1, 5), fine}, row{wait(0), value(1 << 63)})
	play(t, "stop and start", k, row{signal(0, 2), fine}, row{signal(0, 2), fine}, row{poll(1, 5), no(api.ErrStopped)}, row{signal(0, 0), fine}, row{signal(0, 3), fine}, row{poll(1, 5), value(1)})
	play(t, "bits stay", k, row{signal(0, 0), fine}, row{signal(0, 2), fine}, row{signal(0, 3), fine}, row{poll(1, 5), value(1)})
	play(t, "a start wakes", k, row{wait(1), fine}, row{signal(0, 3), fine}, row{poll(1, 5), fine}, row{wait(1), fine}, row{signal(0, 2), fine}, row{status(1), no(api.ErrStopped)},
		row{signal(0, 3), fine}, row{status(1), api.Result{At: 8}})
	play(t, "stopped and asleep", k, row{wait(1), fine}, row{signal(0, 2), fine}, row{signal(0, 0), fine}, row{status(1), no(api.ErrStopped)}, row{signal(0, 3), fine}, row{wait(1), value(1 << 5)})
	play(t, "one that never ran", k, row{tick(8), fine}, row{status(2), no(api.ErrStopped)}, row{signal(3, 4), fine}, row{status(2), api.Result{At: 4, Clock: 8}})
}

// TestReset: P16.2: what a reset makes new, and what stays.
func TestReset(t *testing.T) {
	t.Parallel()
	k, _ := up(t, whole)
	dirty := []row{
		{store(1, 0, 8, 1), fine}, {store(1, 0x8000, 8, 1), fine}, {store(1, 0x9ff8, 8, 1), fine}, {store(1, 0x40000000, 8, 1), fine},
		{store(0, 0x2000, 8, 1), fine}, {signal(0, 0), fine}, {arm(1, 3, 3), fine},
	}
	clean := []row{
		{load(1, 0, 8), value('a' | 'b'<<8)}, {load(1, 0x1000, 1), value(3)}, {load(1, 0x2fff, 1), value(3)}, {load(1, 0x40000000, 8), value(1)},
		{load(0, 0x2000, 8), value(1)}, {wait(0), value(1 << 2)}, {poll(1, 5), fine}, {tick(4), fine}, {poll(1, 3), fine}, {tick(8), fine},
	}
	play(t, "a bit of another one", k, row{arm(0, 1, 2), fine}, row{tick(12), fine}, row{wait(0), value(1 << 2)})
	play(t, "dirty", k, dirty...)
	play(t, "by a channel", k, append([]row{{signal(0, 1), fine}}, clean...)...)
	play(t, "dirty", k, dirty...)
	play(t, "by its rule", k, append([]row{{load(1, 0x7000, 1), fault(api.ErrAbsent, 0x7000)}}, clean...)...)
	play(t, "dirty", k, dirty[:6]...)
	play(t, "asleep", k, row{poll(1, 5), value(1)}, row{wait(1), fine}, row{signal(0, 1), fine}, row{load(1, 0, 8), value('a' | 'b'<<8)})
	play(t, "dirty", k, dirty...)
	play(t, "stopped", k, append([]row{{signal(0, 2), fine}, {signal(0, 1), fine}, {status(1), no(api.ErrStopped)}, {signal(0, 3), fine}}, clean...)...)
}

// TestTurn: P16.2: what is asked of a subject, in this order.
func TestTurn(t *testing.T) {
	t.Parallel()
	k, _ := up(t, whole)
	for kind := api.Access; kind <= api.Unmask; kind++ {
		// What is asked behind the turn is wrong, too, in all of these.
		at := func(who int) api.Step {
			return api.Step{Kind: kind, Subject: who, Number: 99, At: 1 << 40, Width: 3, Value: 99}
		}
		for _, who := range []int{-1, 4, 1 << 40, -1 << 63} {
			play(t, "no subject", k, row{at(who), no(api.ErrSubject)})
		}
		play(t, "not its turn", k, row{at(2), no(api.ErrTurn)}, row{tick(8), fine}, row{at(2), no(api.ErrStopped)}, row{at(1), no(api.ErrTurn)}, row{tick(4), fine})
		play(t, "asleep", k, row{wait(1), fine}, row{at(1), no(api.ErrAsleep)}, row{tick(8), fine}, row{at(1), no(api.ErrTurn)}, row{tick(4), fine})
		play(t, "stopped and asleep", k, row{signal(0, 2), fine}, row{at(1), no(api.ErrStopped)}, row{tick(8), fine}, row{at(1), no(api.ErrTurn)}, row{tick(4), fine}, row{signal(0, 3), fine})
		play(t, "idle", k, row{tick(6), fine}, row{at(0), no(api.ErrTurn)}, row{tick(6), fine})
	}
	for _, kind := range []int{0, -1, 13, 14, 1 << 40, -1 << 63, 1<<63 - 1} {
		for _, who := range []int{-1, 0, 1, 2, 99} {
			play(t, "no kind", k, row{api.Step{Kind: kind, Subject: who, Number: who}, no(api.ErrArg)})
		}
	}
}

// TestBits: P16.2: Poll, Wait and Arm.
func TestBits(t *testing.T) {
	t.Parallel()
	k, _ := up(t, whole)
	for _, v := range []uint64{64, 65, 1 << 40, 1<<64 - 1} {
		play(t, "no vector", k, row{poll(0, v), no(api.ErrVector)}, row{arm(0, 0, v), no(api.ErrVector)}, row{arm(0, 5, v), no(api.ErrVector)})
	}
	for v := range uint64(64) {
		play(t, "each vector", k, row{poll(0, v), fine}, row{arm(0, 1, v), fine}, row{tick(12), fine}, row{wait(0), value(1 << v)},
			row{poll(0, (v+1)%64), fine}, row{poll(0, v), value(1)}, row{poll(0, v), fine})
	}
	play(t, "the last one counts", k, row{arm(0, 1, 4), fine}, row{arm(0, 2, 5), fine}, row{tick(1), fine}, row{wait(0), fine}, row{wait(0), no(api.ErrAsleep)}, row{tick(1), fine}, row{wait(0), value(1 << 5)}, row{poll(0, 5), value(1)})
	play(t, "off", k, row{arm(0, 1, 4), fine}, row{arm(0, 0, 5), fine}, row{tick(10), fine}, row{poll(0, 4), fine}, row{poll(0, 5), fine})
	play(t, "once", k, row{arm(0, 12, 4), fine}, row{tick(12), fine}, row{poll(0, 4), value(1)}, row{tick(12), fine}, row{poll(0, 4), fine})
	play(t, "of one that is stopped", k, row{arm(1, 2, 4), fine}, row{signal(0, 2), fine}, row{tick(12), fine}, row{status(1), no(api.ErrStopped)}, row{signal(0, 3), fine}, row{poll(1, 4), value(1)})
	play(t, "a refused one leaves it", k, row{arm(0, 12, 4), fine}, row{arm(0, 1, 64), no(api.ErrVector)}, row{tick(12), fine}, row{poll(0, 4), value(1)})
	play(t, "two", k, row{signal(0, 0), fine}, row{arm(1, 1, 0), fine}, row{tick(12), fine}, row{wait(1), value(1 | 1<<5)}, row{poll(1, 0), value(1)}, row{wait(1), value(1 << 5)}, row{wait(1), value(1 << 5)})
}

// TestPlans: P16.2: Status and Switch.
func TestPlans(t *testing.T) {
	t.Parallel()
	k, _ := up(t, whole)
	play(t, "status", k, row{status(0), api.Result{At: 6}}, row{tick(5), fine}, row{status(0), api.Result{At: 1, Clock: 5}}, row{status(1), api.Result{At: 3, Clock: 5}},
		row{tick(1), fine}, row{status(0), no(api.ErrTurn)}, row{status(3), api.Result{At: 1, Clock: 6}}, row{tick(1), fine},
		row{status(0), api.Result{At: 5, Clock: 7}}, row{status(3), no(api.ErrTurn)}, row{tick(4), fine}, row{status(0), api.Result{At: 1, Clock: 11}})
	for _, number := range []int{0, 1, -1, 2, 1 << 40} {
		play(t, "not the master", k, row{change(3, number), no(api.ErrTurn)}, row{tick(1), fine}, row{change(3, number), no(api.ErrMaster)}, row{change(1, number), no(api.ErrMaster)}, row{tick(11), fine})
	}
	for _, number := range []int{-1, 2, 1 << 40, -1 << 63} {
		play(t, "no plan", k, row{change(0, number), no(api.ErrPlan)})
	}
	play(t, "another plan", k, row{change(0, 1), fine}, row{status(0), api.Result{At: 1, Clock: 71}}, row{tick(1), fine}, row{status(0), no(api.ErrTurn)}, row{tick(1), fine},
		row{status(0), api.Result{Value: 1, At: 2, Clock: 73}}, row{change(0, 0), fine}, row{change(0, 1), fine}, row{tick(5), fine}, row{status(0), api.Result{Value: 1, At: 2, Clock: 78}},
		row{change(0, 0), fine}, row{tick(3), fine}, row{status(0), no(api.ErrTurn)}, row{tick(1), fine}, row{status(0), api.Result{At: 6, Clock: 82}})
	// A slot ends at the wrap, also where the next round begins with the same
	// subject; without a master nobody switches.
	k, _ = up(t, `system s { ram 0 size 64K; subject a cpu 0 { } plan p major 7 { cpu 0 { run a 7; } } start p; }`)
	play(t, "one plan", k, row{status(0), api.Result{At: 7}}, row{tick(13), fine}, row{status(0), api.Result{At: 1, Clock: 13}}, row{change(0, 0), no(api.ErrMaster)})
}

// TestOtherFields: P16.2: fields that a kind does not name are not looked at.
func TestOtherFields(t *testing.T) {
	t.Parallel()
	k, m := up(t, whole)
	l, n := up(t, whole)
	junk := func(s api.Step) api.Step {
		j := api.Step{Kind: s.Kind, Subject: s.Subject, Number: 77, Access: 55, At: 1 << 50, Width: 33, Value: 1 << 60}
		switch s.Kind {
		case api.Tick:
			j.Subject, j.Value = -5, s.Value
		case api.Irq:
			j.Subject, j.Number = -5, s.Number
		case api.Write:
			j.Subject, j.Number, j.At, j.Width, j.Value = -5, s.Number, s.At, s.Width, s.Value
		case api.Dma:
			j = s
			j.Subject = -5
			if s.Access != api.Store {
				j.Value = 1 << 60
			}
		case api.Access:
			j = s
			j.Number = 77
		case api.Signal, api.Switch, api.Unmask:
			j.Number = s.Number
		case api.Poll:
			j.Value = s.Value
		case api.Arm:
			j.At, j.Value = s.At, s.Value
		}
		return j
	}
	for _, s := range []api.Step{
		irq(0), irq(1), irq(1), write(0, 4, 4, 5), dma(0, api.Store, 0x3004, 4, 9), dma(0, api.Load, 0x3000, 8, 0), store(0, 0x2000, 4, 8), load(0, 0x2000, 8), fetch(0, 0x1000, 8),
		signal(0, 0), poll(1, 5), poll(0, 0), poll(1, 62), unmask(1, 1), wait(1), poll(1, 62), wait(1), arm(0, 3, 8), tick(3), poll(0, 8), status(0), change(0, 1), tick(10), status(0), wait(0),
	} {
		x, y := k.Step(s), l.Step(junk(s))
		if x != y || x.Why != api.OK {
			t.Errorf("P16.2: %+v: %+v, and %+v with other fields", s, x, y)
		}
	}
	if !same(m, n) || sees(k) != sees(l) {
		t.Error("P16.2: other fields leave another state")
	}
}

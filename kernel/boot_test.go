package kernel

import (
	"errors"
	"math/rand"
	"slices"
	"testing"

	"bulkhead/api"
	"bulkhead/boot"
	"bulkhead/bus"
	"bulkhead/forge"
)

// kinds are steps of all kinds, and of none.
func kinds() []api.Step {
	var out []api.Step
	for kind := -2; kind < 16; kind++ {
		out = append(out, api.Step{Kind: kind, Access: api.Store, Width: 1, Value: 1})
	}
	return out
}

// holdDown holds a kernel that is down.
func holdDown(t *testing.T, what string, k *Kernel) {
	t.Helper()
	if k == nil {
		t.Fatalf("P16.1: %s: no kernel", what)
	}
	down := seen{current: [4]int{-1, -1, -1, -1}, plan: -1}
	for _, s := range kinds() {
		if r := k.Step(s); r != no(api.ErrDown) {
			t.Errorf("P16.2: %s: %+v answers %+v", what, s, r)
		}
		if got := sees(k); got != down {
			t.Errorf("P16.4: %s: %+v", what, got)
		}
	}
	holdNobody(t, k)
	if r := k.Run(kinds()); len(r) != len(kinds()) || slices.ContainsFunc(r, func(r api.Result) bool { return r != no(api.ErrDown) }) {
		t.Errorf("P16.3: %s: %+v", what, r)
	}
}

// TestBootRefuses: P16.1, P16.2, P16.4: what the loader refuses.
func TestBootRefuses(t *testing.T) {
	t.Parallel()
	b := compiled(t, string(forge.Family(2)))
	other := forge.Bus(b.Policy)
	other.Devices = other.Devices[:1]
	turned := slices.Clone(b.Image)
	turned[len(turned)-4096] ^= 1
	i := read(t, b.Image)
	i.Tables[0][0] = i.Base | 1
	for what, c := range map[string]struct {
		bus *api.Bus
		raw []byte
		why api.Errno
	}{
		"no machine":           {nil, b.Image, api.ErrArg},
		"no machine, no bytes": {nil, nil, api.ErrArg},
		"no bytes":             {new(forge.Bus(b.Policy)), nil, api.ErrShort},
		"empty":                {new(forge.Bus(b.Policy)), []byte{}, api.ErrShort},
		"a byte less":          {new(forge.Bus(b.Policy)), b.Image[:len(b.Image)-1], api.ErrShort},
		"a bit turned":         {new(forge.Bus(b.Policy)), turned, api.ErrSum},
		"another bus":          {&other, b.Image, api.ErrBus},
		"another table":        {new(forge.Bus(b.Policy)), laid(t, i), api.ErrEntry},
	} {
		var m, was *bus.Machine
		if c.bus != nil {
			m = machine(t, *c.bus)
			m.Store(0x100000, 8, 0x1122334455667788)
			was = m.Clone()
		}
		k, err := Boot(m, c.raw)
		_, want := boot.Load(m, c.raw)
		var r, right *boot.Refusal
		if !errors.As(err, &r) || !errors.As(want, &right) || *r != *right || r.Why != c.why || !errors.Is(err, c.why) {
			t.Errorf("P16.1: %s: %v, want %v", what, err, want)
		}
		holdDown(t, what, k)
		if m != nil && (!same(m, was) || m.Stores() != 1 || m.Loads() != 0 || m.Strays() != 0) {
			t.Errorf("P16.2: %s: the machine was changed", what)
		}
	}
}

// TestBoot: P16.1, P16.4: at boot.
func TestBoot(t *testing.T) {
	t.Parallel()
	for n, current := range map[int][4]int{1: {0, -1, -1, -1}, 2: {0, 1, -1, -1}, 3: {0, 1, 2, -1}, 64: {0, 1, 2, 3}} {
		k, m := up(t, string(forge.Family(n)))
		if got := sees(k); got != (seen{up: true, current: current}) {
			t.Errorf("P16.4: Family(%d): %+v", n, got)
		}
		holdNobody(t, k)
		if m.Strays() != 0 {
			t.Errorf("P16.6: Family(%d): %d strays", n, m.Strays())
		}
	}
	k, _ := up(t, `system s { ram 0 size 64K; subject a cpu 3 { } plan p major 1 { } plan q major 9 { cpu 3 { idle 2; run a 1; } } master a; start q; }`)
	if got := sees(k); got != (seen{up: true, current: [4]int{-1, -1, -1, -1}, plan: 1}) {
		t.Errorf("P16.4: %+v", got)
	}
	k, _ = up(t, `system s { ram 0 size 64K; plan p major 1 { } start p; }`)
	play(t, "no subject, device or irq", k, row{wait(0), no(api.ErrSubject)}, row{write(0, 0, 1, 1), no(api.ErrDevice)},
		row{dma(0, api.Load, 0, 1, 0), no(api.ErrDevice)}, row{irq(0), no(api.ErrIrq)}, row{tick(5), fine})
}

// TestBootAgain: P16.1: a machine that was used is at boot again, but for its
// windows; and the kernel ahead of it answers, whatever.
func TestBootAgain(t *testing.T) {
	t.Parallel()
	b := compiled(t, whole)
	first, m := booted(t, b)
	for _, s := range []api.Step{store(0, 0x2000, 8, 1), store(0, 0x10000, 8, 2), arm(0, 3, 3), tick(2), wait(1), change(0, 1), signal(0, 2)} {
		if r := first.Step(s); r != fine {
			t.Fatalf("%+v: %+v", s, r)
		}
	}
	again, err := Boot(m, b.Image)
	if err != nil {
		t.Fatal(err)
	}
	play(t, "again", again, row{load(0, 0x2000, 4), value(0x07070707)}, row{load(0, 0x10000, 8), value(2)}, row{poll(1, 0), fine},
		row{tick(12), fine}, row{poll(0, 3), fine}, row{status(0), api.Result{At: 6, Clock: 12}})
	larger := compiled(t, string(forge.Family(64)))
	k, m := up(t, string(forge.Family(2)))
	if _, err := Boot(m, larger.Image); err != nil {
		t.Fatal(err)
	}
	for _, s := range kinds() {
		k.Step(s)
		first.Step(s)
	}
	if !k.Up() || !first.Up() {
		t.Error("P16.1: a kernel went down")
	}
}

// TestSpoilt: P16.1, R1: a kernel whose tables somebody else has spoilt answers.
func TestSpoilt(t *testing.T) {
	t.Parallel()
	r := rand.New(rand.NewSource(3))
	b := compiled(t, whole)
	i := read(t, b.Image)
	tables := i.Base + uint64(len(b.Image)-4096*len(i.Tables))
	for range 20 {
		k, m := booted(t, b)
		for range 2000 {
			e := uint64(r.Intn(16)) | pick[uint64](r, tables, tables+4096*uint64(r.Intn(len(i.Tables))), 1<<21, 0xfffff000, uint64(r.Uint32()))
			m.Store(tables+8*uint64(r.Intn(512*len(i.Tables))), 8, e)
		}
		for range 50 {
			for _, s := range kinds() {
				s.Subject, s.Number, s.Access, s.At = r.Intn(4), r.Intn(4), 1+r.Intn(3), r.Uint64()>>r.Intn(64)
				k.Step(s)
			}
		}
	}
}

// TestRun: P16.3: Run is Step of each.
func TestRun(t *testing.T) {
	t.Parallel()
	m := maker{rand.New(rand.NewSource(5))}
	for range 20 {
		b := m.built(t)
		k, one := booted(t, b)
		l, other := booted(t, b)
		w := meaning(b.Policy)
		for _, size := range []int{0, 1, 7, 100} {
			var script []api.Step
			var want []api.Result
			for range size {
				s := m.step(w)
				w.step(s)
				script, want = append(script, s), append(want, k.Step(s))
			}
			was := slices.Clone(script)
			got := l.Run(script)
			if !slices.Equal(got, want) || len(got) != size {
				t.Fatalf("P16.3: %v, want %v", got, want)
			}
			if !slices.Equal(was, script) {
				t.Fatal("R2: the script was changed")
			}
		}
		if !same(one, other) || sees(k) != sees(l) {
			t.Fatal("P16.3: Run and Step leave unlike states")
		}
	}
	k, _ := up(t, string(forge.Family(1)))
	if r := k.Run(nil); len(r) != 0 {
		t.Errorf("P16.3: no steps: %v", r)
	}
}

// TestKeepsNothing: R2: the image's bytes are not changed and not kept.
func TestKeepsNothing(t *testing.T) {
	t.Parallel()
	b := compiled(t, whole)
	room := append(slices.Clone(b.Image), "behind"...)
	raw := room[:len(b.Image)]
	m := machine(t, forge.Bus(b.Policy))
	k, err := Boot(m, raw)
	if err != nil {
		t.Fatal(err)
	}
	if !slices.Equal(raw, b.Image) || string(room[len(raw):]) != "behind" {
		t.Error("R2: the bytes were changed")
	}
	for n := range room {
		room[n] = 0xff
	}
	l, _ := booted(t, b)
	maker := maker{rand.New(rand.NewSource(6))}
	w := meaning(b.Policy)
	for range 500 {
		s := maker.step(w)
		w.step(s)
		if x, y := k.Step(s), l.Step(s); x != y {
			t.Fatalf("R2: %+v: %+v, want %+v", s, x, y)
		}
	}
}

// TestTwoKernels: P16.7: two kernels by turns are each as if alone.
func TestTwoKernels(t *testing.T) {
	t.Parallel()
	m := maker{rand.New(rand.NewSource(7))}
	for range 10 {
		b := m.built(t)
		k, one := booted(t, b)
		alone, other := booted(t, b)
		w, v := meaning(b.Policy), meaning(b.Policy)
		still, third := booted(t, b)
		var script []api.Step
		var got []api.Result
		for range 200 {
			s := m.step(w)
			w.step(s)
			script, got = append(script, s), append(got, k.Step(s))
			// The third goes its own way meanwhile.
			s = m.step(v)
			if x, y := still.Step(s), v.step(s); x != y {
				t.Fatalf("P16.7: %+v: %+v, want %+v", s, x, y)
			}
		}
		if !slices.Equal(got, alone.Run(script)) || !same(one, other) {
			t.Fatal("P16.7: a kernel answers otherwise beside another one")
		}
		holdImage(t, "P16.7", third, b.Layout.Image, b.Image, 0)
	}
}

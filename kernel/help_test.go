package kernel

import (
	"bytes"
	"math"
	"testing"

	"bulkhead/api"
	"bulkhead/bundle"
	"bulkhead/bus"
	"bulkhead/forge"
)

// compiled is what comes of a text that is taken.
func compiled(t testing.TB, src string) forge.Built {
	t.Helper()
	b, err := forge.Compile([]byte(src))
	if err != nil {
		t.Fatalf("%.300q: %v", src, err)
	}
	return b
}

// machine is a new machine.
func machine(t testing.TB, b api.Bus) *bus.Machine {
	t.Helper()
	m, why := bus.New(b)
	if why != api.OK {
		t.Fatal(why)
	}
	return m
}

// up is a kernel of a text, on a new machine.
func up(t testing.TB, src string) (*Kernel, *bus.Machine) {
	t.Helper()
	return booted(t, compiled(t, src))
}

// booted is a kernel of what was built, on a new machine.
func booted(t testing.TB, b forge.Built) (*Kernel, *bus.Machine) {
	t.Helper()
	m := machine(t, forge.Bus(b.Policy))
	k, err := Boot(m, b.Image)
	if err != nil || !k.Up() {
		t.Fatalf("P16.1: %v", err)
	}
	return k, m
}

// read is what the bytes of an image say.
func read(t testing.TB, raw []byte) api.Image {
	t.Helper()
	i, _, why := bundle.Decode(raw)
	if why != api.OK {
		t.Fatal(why)
	}
	return i
}

// laid are the bytes of an image.
func laid(t testing.TB, i api.Image) []byte {
	t.Helper()
	raw, why := bundle.Encode(i)
	if why != api.OK {
		t.Fatal(why)
	}
	return raw
}

// row is a step and its answer.
type row struct {
	step api.Step
	want api.Result
}

// play does steps one behind the other, and holds each answer.
func play(t *testing.T, what string, k *Kernel, rows ...row) {
	t.Helper()
	for n, x := range rows {
		if r := k.Step(x.step); r != x.want {
			t.Errorf("P16.2: %s: row %d, %+v: %+v, want %+v", what, n, x.step, r, x.want)
		}
	}
}

// The steps, each with the fields that its kind names.
func tick(n uint64) api.Step { return api.Step{Kind: api.Tick, Value: n} }
func irq(n int) api.Step     { return api.Step{Kind: api.Irq, Number: n} }
func wait(s int) api.Step    { return api.Step{Kind: api.Wait, Subject: s} }
func status(s int) api.Step  { return api.Step{Kind: api.Status, Subject: s} }
func signal(s, n int) api.Step {
	return api.Step{Kind: api.Signal, Subject: s, Number: n}
}
func poll(s int, v uint64) api.Step {
	return api.Step{Kind: api.Poll, Subject: s, Value: v}
}
func arm(s int, at, v uint64) api.Step {
	return api.Step{Kind: api.Arm, Subject: s, At: at, Value: v}
}
func change(s, n int) api.Step {
	return api.Step{Kind: api.Switch, Subject: s, Number: n}
}
func unmask(s, n int) api.Step {
	return api.Step{Kind: api.Unmask, Subject: s, Number: n}
}
func load(s int, at uint64, width int) api.Step {
	return api.Step{Kind: api.Access, Subject: s, Access: api.Load, At: at, Width: width}
}
func fetch(s int, at uint64, width int) api.Step {
	return api.Step{Kind: api.Access, Subject: s, Access: api.Fetch, At: at, Width: width}
}
func store(s int, at uint64, width int, v uint64) api.Step {
	return api.Step{Kind: api.Access, Subject: s, Access: api.Store, At: at, Width: width, Value: v}
}
func write(d int, at uint64, width int, v uint64) api.Step {
	return api.Step{Kind: api.Write, Number: d, At: at, Width: width, Value: v}
}
func dma(d, access int, at uint64, width int, v uint64) api.Step {
	return api.Step{Kind: api.Dma, Number: d, Access: access, At: at, Width: width, Value: v}
}

var fine = api.Result{}

func value(v uint64) api.Result { return api.Result{Value: v} }

func fault(why api.Errno, at uint64) api.Result { return api.Result{Why: why, At: at} }

// memory are all bytes of a machine, span by span and window by window.
func memory(m *bus.Machine) [][]byte {
	var out [][]byte
	b := m.Bus()
	for _, list := range [][]api.Range{b.Rams, b.Devices} {
		for _, x := range list {
			row, _ := m.Read(x.At, int(x.Size))
			out = append(out, row)
		}
	}
	return out
}

// same tells whether two machines hold the same bytes.
func same(a, b *bus.Machine) bool {
	x, y := memory(a), memory(b)
	for n := range x {
		if !bytes.Equal(x[n], y[n]) {
			return false
		}
	}
	return len(x) == len(y)
}

// seen is all that a kernel's other calls tell.
type seen struct {
	up           bool
	current      [4]int
	plan, offset int
	clock        uint64
}

func sees(k *Kernel) seen {
	s := seen{up: k.Up(), plan: k.Plan(), offset: k.Offset(), clock: k.Clock()}
	for cpu := range s.current {
		s.current[cpu] = k.Current(cpu)
	}
	return s
}

// holdNobody holds that nobody is current on a CPU that there isn't.
func holdNobody(t *testing.T, k *Kernel) {
	t.Helper()
	for _, cpu := range []int{-1, 4, 5, math.MaxInt, math.MinInt} {
		if who := k.Current(cpu); who != -1 {
			t.Errorf("P16.4: on cpu %d %d is current", cpu, who)
		}
	}
}

package walk

import (
	"testing"

	"bulkhead/api"
	"bulkhead/bus"
)

// none is the Fault of an access that is done.
var none = api.Fault{}

// fail is the Fault of an access that is refused.
func fail(why api.Errno, at uint64) api.Fault { return api.Fault{Why: why, At: at} }

// number holds a number and its Fault against what they must be.
func number(t *testing.T, where string, n uint64, f api.Fault, want uint64, fault api.Fault) {
	t.Helper()
	if n != want || f != fault {
		t.Errorf("%s: %#x %v, want %#x %v", where, n, f, want, fault)
	}
}

// machine makes a machine of RAM from At on.
func machine(t *testing.T, rams ...api.Range) *bus.Machine {
	t.Helper()
	m, why := bus.New(api.Bus{Rams: rams})
	if why != api.OK {
		t.Fatalf("bus.New: %v", why)
	}
	return m
}

// put lays entries into the table at an address: numbers and entries by turns.
func put(t *testing.T, m *bus.Machine, table uint64, pairs ...uint64) {
	t.Helper()
	for i := 0; i < len(pairs); i += 2 {
		if f := m.Store(table+8*pairs[i], 8, pairs[i+1]); f != none {
			t.Fatalf("the entry %d of the table at %#x: %v", pairs[i], table, f)
		}
	}
}

// few is the chapter's machine: tables at 4096 (the root), 8192 and 12288; the
// page at 20480 mapped at 0x3000 for writing.
func few(t *testing.T) *bus.Machine {
	t.Helper()
	m := machine(t, api.Range{At: 4096, Size: 20480})
	put(t, m, 4096, 0, 0x2001)
	put(t, m, 8192, 0, 0x3001)
	put(t, m, 12288, 3, 0x5003)
	return m
}

// asked is a call that a memory was asked for.
type asked struct {
	store bool
	at    uint64
	width int
	value uint64
}

// noted is a memory that notes the Loads and Stores that it is asked for, and
// which pages were peeked into.
type noted struct {
	*bus.Machine
	calls []asked
	pages map[uint64]int
}

func note(m *bus.Machine) *noted { return &noted{Machine: m, pages: map[uint64]int{}} }

func (n *noted) Peek(at uint64, width int) (uint64, api.Fault) {
	n.pages[at/api.Page]++
	return n.Machine.Peek(at, width)
}

func (n *noted) Load(at uint64, width int) (uint64, api.Fault) {
	n.calls = append(n.calls, asked{at: at, width: width})
	return n.Machine.Load(at, width)
}

func (n *noted) Store(at uint64, width int, value uint64) api.Fault {
	n.calls = append(n.calls, asked{store: true, at: at, width: width, value: value})
	return n.Machine.Store(at, width, value)
}

// other is a memory that is not right: it answers what its functions do.
type other struct {
	peek  func(at uint64, width int) (uint64, api.Fault)
	load  func(at uint64) (uint64, api.Fault)
	store func(at, value uint64) api.Fault
}

func (o other) Peek(at uint64, width int) (uint64, api.Fault) { return o.peek(at, width) }
func (o other) Load(at uint64, width int) (uint64, api.Fault) { return o.load(at) }
func (o other) Store(at uint64, width int, value uint64) api.Fault {
	return o.store(at, value)
}

// all tells every byte of a machine's RAM.
func all(t *testing.T, m *bus.Machine) string {
	t.Helper()
	var s string
	for _, r := range m.Bus().Rams {
		b, f := m.Read(r.At, int(r.Size))
		if f != none {
			t.Fatalf("Read: %v", f)
		}
		s += string(b)
	}
	return s
}

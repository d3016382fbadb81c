package bus

import (
	"math"

	"bulkhead/api"
	"bulkhead/span"
	"bulkhead/word"
)

// Load tells the number that bytes are.
func (m *Machine) Load(at uint64, width int) (uint64, api.Fault) {
	n, f := m.Peek(at, width)
	if f.Why == api.OK {
		m.loads++
	}
	return n, f
}

// Store lays a number's bytes down.
func (m *Machine) Store(at uint64, width int, value uint64) api.Fault {
	if f := m.askWidth(at, width); f.Why != api.OK {
		return f
	}
	m.held.lay(at, word.Put(nil, value)[:width])
	m.stores++
	return api.Fault{}
}

// Peek is a Load that the Meter doesn't count.
func (m *Machine) Peek(at uint64, width int) (uint64, api.Fault) {
	if f := m.askWidth(at, width); f.Why != api.OK {
		return 0, f
	}
	var b [8]byte
	m.held.read(at, b[:width])
	n, _ := word.Get[uint64](b[:])
	return n, api.Fault{}
}

// Read tells n bytes.
func (m *Machine) Read(at uint64, n int) ([]byte, api.Fault) {
	if f := m.askCount(at, n); f.Why != api.OK {
		return nil, f
	}
	b := make([]byte, n)
	m.held.read(at, b)
	return b, api.Fault{}
}

// Write lays bytes down.
func (m *Machine) Write(at uint64, b []byte) api.Fault {
	if f := m.ask(at, len(b)); f.Why != api.OK {
		return f
	}
	m.held.lay(at, b)
	return api.Fault{}
}

// Fill lays one value into n bytes.
func (m *Machine) Fill(at uint64, n int, value uint8) api.Fault {
	if f := m.askCount(at, n); f.Why != api.OK {
		return f
	}
	m.held.fill(at, n, value)
	return api.Fault{}
}

// askWidth refuses a width that is none, and what ask refuses.
func (m *Machine) askWidth(at uint64, width int) api.Fault {
	switch width {
	case 1, 2, 4, 8:
		return m.ask(at, width)
	}
	return api.Fault{Why: api.ErrWidth, At: at}
}

// askCount refuses a count below 0, and what ask refuses.
func (m *Machine) askCount(at uint64, n int) api.Fault {
	if n < 0 {
		return api.Fault{Why: api.ErrArg, At: at}
	}
	return m.ask(at, n)
}

// ask refuses an access of n bytes of which one is off the bus.
func (m *Machine) ask(at uint64, n int) api.Fault {
	off, ok := m.off(at, n)
	if !ok {
		return api.Fault{}
	}
	m.strays++
	return api.Fault{Why: api.ErrBus, At: off}
}

// off tells the first of n bytes from at on that is off the bus, if one is.
func (m *Machine) off(at uint64, n int) (uint64, bool) {
	if n == 0 {
		return 0, false
	}
	last, ok := word.Add(at, uint64(n)-1)
	if !ok {
		// No bus reaches the highest address: the first one that is off
		// stands ahead of the wrap.
		last = math.MaxUint64
	}
	asked := span.Span[uint64]{First: at, Last: last}
	if m.ground.Covers(asked) {
		return 0, false
	}
	return span.Of(asked).Less(m.ground).Next(at)
}

package walk

import (
	"bulkhead/api"
	"bulkhead/word"
)

// Load loads from virtual addresses.
func Load(m Memory, root, virt uint64, width int) (uint64, api.Fault) {
	return take(m, root, virt, width, api.Load)
}

// Fetch fetches from virtual addresses.
func Fetch(m Memory, root, virt uint64, width int) (uint64, api.Fault) {
	return take(m, root, virt, width, api.Fetch)
}

// take tells the number that the bytes of a Load or a Fetch are.
func take(m Memory, root, virt uint64, width, access int) (uint64, api.Fault) {
	where, f := reached(m, root, virt, width, access)
	if f.Why != api.OK {
		return 0, f
	}
	var b [8]byte
	for i, at := range where {
		n, f := m.Load(at, 1)
		if f.Why != api.OK {
			return 0, stray(virt, i)
		}
		b[i] = byte(n)
	}
	n, _ := word.Get[uint64](b[:])
	return n, api.Fault{}
}

// Store stores to virtual addresses.
func Store(m Memory, root, virt uint64, width int, value uint64) api.Fault {
	where, f := reached(m, root, virt, width, api.Store)
	if f.Why != api.OK {
		return f
	}
	b := word.Put(nil, value)
	for i, at := range where {
		if f := m.Store(at, 1, uint64(b[i])); f.Why != api.OK {
			return stray(virt, i)
		}
	}
	return api.Fault{}
}

// reached tells the physical address of each byte of an access, none of which
// is refused. All of them are asked ahead of the first that is loaded or
// stored: a Store may go to the tables themselves.
func reached(m Memory, root, virt uint64, width, access int) ([]uint64, api.Fault) {
	if m == nil {
		return nil, api.Fault{Why: api.ErrArg, At: virt}
	}
	switch width {
	case 1, 2, 4, 8:
	default:
		return nil, api.Fault{Why: api.ErrWidth, At: virt}
	}
	where := make([]uint64, width)
	for i := range where {
		at, f := Translate(m, root, virt+uint64(i), access)
		if f.Why != api.OK {
			return nil, f
		}
		where[i] = at
	}
	for i, at := range where {
		if _, f := m.Peek(at, 1); f.Why != api.OK {
			return nil, stray(virt, i)
		}
	}
	return where, api.Fault{}
}

// stray is the fault of an access whose byte i is off the bus.
func stray(virt uint64, i int) api.Fault {
	return api.Fault{Why: api.ErrBus, At: virt + uint64(i)}
}

package walk

import (
	"iter"

	"bulkhead/api"
)

// slot is an entry where it stands: the first virtual address that it stands
// for, and what it says, or why it may not be.
type slot struct {
	virt  uint64
	level int
	entry api.Entry
	why   api.Errno
}

// Leaves tells what a root maps.
func Leaves(m Memory, root uint64, most int) iter.Seq2[api.Leaf, api.Errno] {
	return func(yield func(api.Leaf, api.Errno) bool) {
		if m == nil || most < 1 {
			return
		}
		if root%api.Page != 0 {
			yield(api.Leaf{Pages: pages(-1)}, api.ErrTable)
			return
		}
		left := most
		further := func(s slot) bool {
			left--
			return (s.entry.Table || yield(s.leaf(), s.why)) && left > 0
		}
		top := slot{level: -1, entry: api.Entry{Frame: root, Table: true}}
		for a := range top.below(m) {
			if !further(a) {
				return
			}
			for b := range a.below(m) {
				if !further(b) {
					return
				}
				for c := range b.below(m) {
					if !further(c) {
						return
					}
				}
			}
		}
	}
}

// leaf is what is told of a slot that names no table.
func (s slot) leaf() api.Leaf {
	return api.Leaf{
		Virt:  s.virt,
		Phys:  s.entry.Frame,
		Pages: pages(s.level),
		Big:   s.entry.Big,
		Write: s.entry.Write,
		Exec:  s.entry.Exec,
	}
}

// below goes through the entries of the table that a slot names, if it names
// one, and leaves out those that are absent.
func (s slot) below(m Memory) iter.Seq[slot] {
	return func(yield func(slot) bool) {
		if !s.entry.Table {
			return
		}
		level := s.level + 1
		for i := range uint64(api.Entries) {
			e, why := look(m, s.entry.Frame, i, level)
			if why == api.ErrAbsent {
				continue
			}
			if !yield(slot{s.virt + i*reach(level), level, e, why}) {
				return
			}
		}
	}
}

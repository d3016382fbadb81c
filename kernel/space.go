package kernel

import (
	"bulkhead/api"
	"bulkhead/boot"
	"bulkhead/walk"
)

// space is what an access goes through: a root, and the memory in which it and
// its tables lie.
type space struct {
	memory walk.Memory
	root   uint64
}

// spaceOf is the space of the root with this number, of tables that lie from an
// address on.
func spaceOf(m walk.Memory, tables uint64, root int) space {
	if root < 0 {
		return space{memory: void{}}
	}
	return space{memory: m, root: tables + uint64(root)*api.Page}
}

// access does a load, a store or a fetch, or tells why not.
func (s space) access(a api.Step) api.Result {
	var n uint64
	f := api.Fault{Why: api.ErrArg, At: a.At}
	switch a.Access {
	case api.Load:
		n, f = walk.Load(s.memory, s.root, a.At, a.Width)
	case api.Store:
		f = walk.Store(s.memory, s.root, a.At, a.Width, a.Value)
	case api.Fetch:
		n, f = walk.Fetch(s.memory, s.root, a.At, a.Width)
	}
	return api.Result{Why: f.Why, Value: n, At: f.At}
}

// mostLeaves is more than all entries of the tables that an image may have: no
// leaf is left out, and a walk ends even if somebody else has spoilt the tables.
const mostLeaves = api.MaxImage * api.Entries

// renew gives the pages that a space maps for writing their first contents
// again. A page that is mapped often is made new once: an image may map its few
// pages at far more addresses than anybody could wait for.
func (k *Kernel) renew(s space) {
	done := map[api.Range]struct{}{}
	for leaf, why := range walk.Leaves(s.memory, s.root, mostLeaves) {
		if why != api.OK || !leaf.Write {
			continue
		}
		r := api.Range{At: leaf.Phys, Size: uint64(leaf.Pages) * api.Page}
		if _, ok := done[r]; !ok {
			done[r] = struct{}{}
			k.renewRange(r)
		}
	}
}

// renewRange gives the pages of a range that lie in a region their first
// contents again; no region lies in a window.
func (k *Kernel) renewRange(r api.Range) {
	for behind := uint64(0); behind < r.Size; behind += api.Page {
		if first, ok := boot.First(k.image, r.At+behind); ok {
			k.machine.Write(r.At+behind, first)
		}
	}
}

// void is a memory of zeros: each table in it maps nothing. It is the space of
// a device that has none, so that walk tells what is refused there, too.
type void struct{}

func (void) Peek(uint64, int) (uint64, api.Fault) { return 0, api.Fault{} }
func (void) Load(uint64, int) (uint64, api.Fault) { return 0, api.Fault{} }
func (void) Store(uint64, int, uint64) api.Fault  { return api.Fault{} }

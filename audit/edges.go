package audit

import "bulkhead/api"

// actors is the most that an image may have.
const actors = api.MaxSubjects + api.MaxDevices

// crew is a set of actors, a bit for each: pages may be many, and be mapped by
// all actors, so that sets are joined whole.
type crew [(actors + 63) / 64]uint64

func (c *crew) put(actor int) { c[actor/64] |= 1 << (actor % 64) }

func (c crew) has(actor int) bool { return c[actor/64]>>(actor%64)&1 != 0 }

func (c *crew) join(other crew) {
	for n := range c {
		c[n] |= other[n]
	}
}

// users are those who see an object, and those of them who alter it.
type users struct{ see, alter crew }

// book tells of each object who uses it. An object stands under its page, a
// window, however many pages it has, under its first.
type book map[uint64]users

func (b book) put(object uint64, actor int, write bool) {
	u := b[object]
	u.see.put(actor)
	if write {
		u.alter.put(actor)
	}
	b[object] = u
}

// edges are an image's, rising.
func (i image) edges() []api.Edge {
	var heard [actors]crew // of each actor, those who hear it
	for _, u := range i.uses() {
		for from := range heard {
			if u.alter.has(from) {
				heard[from].join(u.see)
			}
		}
	}
	i.links(func(from, to int) { heard[from].put(to) })
	var out []api.Edge
	for from := range heard {
		for to := range heard {
			if from != to && heard[from].has(to) {
				out = append(out, api.Edge{From: from, To: to})
			}
		}
	}
	return out
}

// uses tells who uses what. A device sees and alters its own window.
func (i image) uses() book {
	b := book{}
	for actor, root := range i.roots() {
		i.each(root, func(page uint64, write bool) {
			b.put(i.object(page), actor, write)
		})
	}
	for n, d := range i.Bus.Devices {
		b.put(d.At, len(i.Subjects)+n, true)
	}
	return b
}

// each hands over the pages that a root maps. What is mapped again, at another
// address, is not handed over again: a few big pages may be mapped more often
// than anybody could wait for.
func (i image) each(root int, see func(page uint64, write bool)) {
	type stretch struct {
		at    uint64
		pages int
		write bool
	}
	done := map[stretch]struct{}{}
	for leaf := range i.leaves(root) {
		s := stretch{leaf.Phys, leaf.Pages, leaf.Write}
		if _, ok := done[s]; ok {
			continue
		}
		done[s] = struct{}{}
		for n := range s.pages {
			see(s.at+uint64(n)*api.Page, s.write)
		}
	}
}

// object is what a page is looked up under: one of a window stands for all of
// it.
func (i image) object(page uint64) uint64 {
	for _, d := range i.Bus.Devices {
		if page >= d.At && page-d.At < d.Size {
			return d.At
		}
	}
	return page
}

// links hands over the ends of channels, irqs and rules that tell, and the
// master's with each subject, if there is another plan that it could switch to.
func (i image) links(join func(from, to int)) {
	for _, c := range i.Channels {
		join(c.From, c.To)
	}
	for _, q := range i.Irqs {
		join(len(i.Subjects)+q.From, q.To)
	}
	for n, s := range i.Subjects {
		if s.Rule == api.ByVector {
			join(n, s.To)
		}
		if i.Master != -1 && len(i.Plans) > 1 {
			join(i.Master, n)
		}
	}
}

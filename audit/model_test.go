package audit

import (
	"slices"

	"bulkhead/api"
)

// The chapter's and the document's words, taken one by one: what is held against
// the package.

// mapped are the leaves of a root, by the entries' bits, rising.
func mapped(i api.Image, pages, root int) []api.Leaf {
	if root < 0 {
		return nil
	}
	below := func(e uint64) api.Table {
		return i.Tables[int((e&^0xfff-i.Base)/4096)-(pages-len(i.Tables))]
	}
	var out []api.Leaf
	for x, a := range i.Tables[root] {
		if a == 0 {
			continue
		}
		for y, b := range below(a) {
			virt := uint64(x)<<30 + uint64(y)<<21
			switch {
			case b == 0:
			case b&8 != 0:
				out = append(out, api.Leaf{Virt: virt, Phys: b &^ 0xfff, Pages: 512, Big: true, Write: b&2 != 0, Exec: b&4 != 0})
			default:
				for z, c := range below(b) {
					if c != 0 {
						out = append(out, api.Leaf{Virt: virt + uint64(z)<<12, Phys: c &^ 0xfff, Pages: 1, Write: c&2 != 0, Exec: c&4 != 0})
					}
				}
			}
		}
	}
	return out
}

// joined are leaves, those in one row that may be.
func joined(leaves []api.Leaf) []api.Leaf {
	var out []api.Leaf
	for _, x := range leaves {
		if n := len(out) - 1; n >= 0 {
			l, size := &out[n], 4096*uint64(out[n].Pages)
			if l.Virt+size == x.Virt && l.Phys+size == x.Phys && l.Big == x.Big && l.Write == x.Write && l.Exec == x.Exec {
				l.Pages += x.Pages
				continue
			}
		}
		out = append(out, x)
	}
	return out
}

// object is a page of RAM by its number, or a window: its device's number.
type object struct {
	window bool
	number uint64
}

// uses are the objects that leaves map, each with whether it is for writing.
func uses(b api.Bus, leaves []api.Leaf) map[object]bool {
	out := map[object]bool{}
	for _, l := range leaves {
		for n := range uint64(l.Pages) {
			o := object{number: l.Phys/4096 + n}
			for d, w := range b.Devices {
				if at := l.Phys + 4096*n; at >= w.At && at < w.At+w.Size {
					o = object{true, uint64(d)}
				}
			}
			out[o] = out[o] || l.Write
		}
	}
	return out
}

// ties tells each kind of edge that there is from u to v, by the words of
// 'Flow', of what each actor uses.
func ties(i api.Image, used []map[object]bool, u, v int) []string {
	var out []string
	tie := func(kind string, ok bool) {
		if ok && u != v && !slices.Contains(out, kind) {
			out = append(out, kind)
		}
	}
	subjects := len(i.Subjects)
	for o, write := range used[u] {
		_, seen := used[v][o]
		tie("page", !o.window && write && seen)
		tie("window of a third", o.window && write && seen && int(o.number)+subjects != u && int(o.number)+subjects != v)
		tie("to window", o.window && write && int(o.number)+subjects == v)
	}
	if u >= subjects {
		_, seen := used[v][object{true, uint64(u - subjects)}]
		tie("window", seen)
		for _, q := range i.Irqs {
			tie("irq", q.From == u-subjects && q.To == v)
		}
		return out
	}
	for _, c := range i.Channels {
		tie("channel", c.From == u && c.To == v)
	}
	tie("rule", i.Subjects[u].Rule == api.ByVector && i.Subjects[u].To == v)
	tie("master", i.Master == u && v < subjects && len(i.Plans) >= 2)
	return out
}

// drawn are an image's facts, and how often each kind of edge is met.
func drawn(i api.Image, pages int, met map[string]int) api.Facts {
	f := api.Facts{Subjects: len(i.Subjects), Devices: len(i.Devices)}
	var used []map[object]bool
	for _, s := range i.Subjects {
		used = append(used, uses(i.Bus, mapped(i, pages, s.Root)))
	}
	for _, d := range i.Devices {
		used = append(used, uses(i.Bus, mapped(i, pages, d.Root)))
	}
	for u := range used {
		for v := range used {
			kinds := ties(i, used, u, v)
			if len(kinds) > 0 {
				f.Edges = append(f.Edges, api.Edge{From: u, To: v})
			}
			for _, k := range kinds {
				met[k]++
			}
		}
	}
	for _, q := range i.Irqs {
		f.Irqs = append(f.Irqs, q.From)
	}
	return f
}

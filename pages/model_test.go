package pages

import (
	"slices"

	"bulkhead/api"
)

// The chapter's words once more, without what the rows' order tells: each page
// by itself in a map, and tables as nodes of a tree that is written down
// afterwards.

// refused tells why rows may not be. It counts in pages, not in bytes: such
// numbers' sums stay within 64 bits.
func refused(rows []api.Leaf) api.Errno {
	for i, r := range rows {
		unit, pages := uint64(4096), 1
		if r.Big {
			unit, pages = 2<<20, 512
		}
		switch {
		case r.Pages <= 0 || r.Pages%pages != 0:
			return api.ErrSize
		case r.Virt%unit > 0 || r.Phys%unit > 0:
			return api.ErrAlign
		case r.Virt>>12+uint64(r.Pages)-1 >= 1<<27:
			return api.ErrHole
		case r.Phys>>12+uint64(r.Pages)-1 >= 1<<20:
			return api.ErrPhys
		case i > 0 && r.Virt>>12 < rows[i-1].Virt>>12+uint64(rows[i-1].Pages):
			return api.ErrOrder
		}
	}
	return api.OK
}

// paged is what rows map: of each page's number what is mapped there.
func paged(rows []api.Leaf) map[uint64]api.Leaf {
	all := map[uint64]api.Leaf{}
	for _, r := range rows {
		for k := range uint64(r.Pages) {
			one := r
			one.Virt, one.Phys, one.Pages = r.Virt+k*4096, r.Phys+k*4096, 1
			all[one.Virt/4096] = one
		}
	}
	return all
}

// node is a table: its entries by their numbers.
type node map[uint64]*entry

// entry is a leaf's number, or a table.
type entry struct {
	raw   uint64
	below node
}

// under is the table that an entry names, which is made where there is none.
func (n node) under(number uint64) node {
	if n[number] == nil {
		n[number] = &entry{below: node{}}
	}
	return n[number].below
}

// grown is the root over some pages.
func grown(all map[uint64]api.Leaf) node {
	root := node{}
	for page, l := range all {
		raw := l.Phys + 1
		if l.Write {
			raw += 2
		}
		if l.Exec {
			raw += 4
		}
		middle := root.under(page / 512 / 512)
		if l.Big {
			middle[page/512%512] = &entry{raw: raw/(2<<20)*(2<<20) + raw%16 + 8}
			continue
		}
		middle.under(page / 512 % 512)[page%512] = &entry{raw: raw}
	}
	return root
}

// written is a tree in pre-order, behind the tables that are written already.
func (n node) written(list []api.Table, base uint64) []api.Table {
	own := len(list)
	list = append(list, api.Table{})
	for number := range uint64(512) {
		e := n[number]
		switch {
		case e == nil:
		case e.below == nil:
			list[own][number] = e.raw
		default:
			list[own][number] = base + uint64(len(list))*4096 + 1
			list = e.below.written(list, base)
		}
	}
	return list
}

// built is Build.
func built(rows []api.Leaf, base uint64) ([]api.Table, api.Errno) {
	if why := refused(rows); why != api.OK {
		return nil, why
	}
	list := grown(paged(rows)).written(nil, base)
	switch {
	case len(list) > 1024:
		return nil, api.ErrMany
	case base%4096 > 0:
		return nil, api.ErrAlign
	case base/4096+uint64(len(list))-1 >= 1<<20:
		return nil, api.ErrPhys
	}
	return list, api.OK
}

// joined is Runs: two neighbours that may be one are made one, until there are
// none, from the last one on.
func joined(rows []api.Leaf) []api.Leaf {
	if refused(rows) != api.OK {
		return nil
	}
	rows = slices.Clone(rows)
	for i := len(rows) - 1; i > 0; i-- {
		a, b := rows[i-1], rows[i]
		n := uint64(a.Pages) * 4096
		if a.Virt+n != b.Virt || a.Phys+n != b.Phys || a.Big != b.Big || a.Write != b.Write || a.Exec != b.Exec {
			continue
		}
		rows[i-1].Pages += b.Pages
		rows = slices.Delete(rows, i, i+1)
	}
	return rows
}

// leaves is what walk.Leaves must tell: each page by itself, a big one as its
// 512.
func leaves(rows []api.Leaf) []api.Leaf {
	var out []api.Leaf
	for _, r := range rows {
		step := 1
		if r.Big {
			step = 512
		}
		for k := 0; k < r.Pages; k += step {
			one := r
			one.Virt, one.Phys, one.Pages = r.Virt+uint64(k)*4096, r.Phys+uint64(k)*4096, step
			out = append(out, one)
		}
	}
	return out
}

// translated is what an access to an address must be answered, by the rows
// alone.
func translated(rows []api.Leaf, virt uint64, access int) (uint64, api.Errno) {
	if virt >= 1<<39 {
		return 0, api.ErrHole
	}
	for _, r := range rows {
		switch {
		case virt < r.Virt || (virt-r.Virt)/4096 >= uint64(r.Pages):
		case access == api.Store && !r.Write:
			return 0, api.ErrWrite
		case access == api.Fetch && !r.Exec:
			return 0, api.ErrExec
		default:
			return r.Phys + (virt - r.Virt), api.OK
		}
	}
	return 0, api.ErrAbsent
}

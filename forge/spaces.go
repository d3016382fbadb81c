package forge

import (
	"cmp"
	"slices"

	"bulkhead/api"
	"bulkhead/pages"
)

// root makes a space's tables behind those that there are, and tells the
// number of its root.
func (d *draft) root(maps []api.Map) int {
	number := len(d.tables)
	made, _ := pages.Build(d.leaves(maps), d.first+uint64(number)*api.Page)
	d.tables = append(d.tables, made...)
	return number
}

// leaves are a space's mappings by rising virtual address.
func (d *draft) leaves(maps []api.Map) []api.Leaf {
	var rows []api.Leaf
	for _, m := range maps {
		rows = append(rows, d.leaf(m))
	}
	slices.SortFunc(rows, func(a, b api.Leaf) int { return cmp.Compare(a.Virt, b.Virt) })
	return rows
}

// leaf is a mapping of a whole region, or of a whole window.
func (d *draft) leaf(m api.Map) api.Leaf {
	row := api.Leaf{Virt: m.At, Write: m.Write, Exec: m.Exec}
	if n, ok := d.regions[m.Of]; ok {
		r := d.policy.Regions[n]
		row.Phys, row.Pages, row.Big = d.layout.Regions[n], inPages(r.Size), r.Big
		return row
	}
	v := d.policy.Devices[d.devices[m.Of]]
	row.Phys, row.Pages = v.At, inPages(v.Size)
	return row
}

// inPages tells how many pages so many bytes are.
func inPages(size uint64) int { return int(size / api.Page) }

package pages

import (
	"bulkhead/api"
	"bulkhead/walk"
)

// levels is how many levels of tables there are.
const levels = 3

// leafLevel is the level of the tables in which a leaf stands.
func leafLevel(big bool) int {
	if big {
		return levels - 2
	}
	return levels - 1
}

// through tells the number of an address' entry among all entries of a level,
// counted through its tables.
func through(virt uint64, level int) uint64 { return virt >> (30 - 9*level) }

// number tells the number of an address' entry in its table of a level.
func number(virt uint64, level int) uint64 { return through(virt, level) % api.Entries }

// tables counts the tables of rows that are not refused: the root, and one for
// each entry above a leaf's. The rows rise: so of the entries that a row needs
// those ahead of it have needed the first one, at most.
func tables(rows []api.Leaf) int {
	many := uint64(1)
	var next [levels - 1]uint64 // of each level, the entry behind the last one that is counted
	for _, r := range rows {
		for level := range leafLevel(r.Big) {
			first := max(through(r.Virt, level), next[level])
			next[level] = through(end(r)-1, level) + 1
			many += next[level] - first
		}
	}
	return int(many)
}

// builder lays entries down by rising virtual address: so the tables are begun
// in pre-order, and of each level the one begun last is the only one that more
// may come into.
type builder struct {
	open [levels][]api.Table // of each level a window of the list, one table wide
	rest []api.Table         // those that are not begun
	at   uint64              // where the first of these lies
}

// begun begins the root of a list of empty tables.
func begun(list []api.Table, base uint64) *builder {
	b := &builder{rest: list, at: base}
	b.begin(0)
	return b
}

// begin begins the next table, of a level, and tells where it lies.
func (b *builder) begin(level int) uint64 {
	at := b.at
	b.open[level] = b.rest[:1:1]
	b.rest = b.rest[1:]
	b.at += api.Page
	return at
}

// set lays down what an address' entry of a level says.
func (b *builder) set(virt uint64, level int, e api.Entry) {
	// What is said of rows that are not refused there is an entry for.
	raw, _ := walk.Make(e, level)
	b.open[level][0][number(virt, level)] = raw
}

// down begins the tables that lead to a leaf and are not there yet.
func (b *builder) down(virt uint64, leaf int) {
	for level := range leaf {
		if b.open[level][0][number(virt, level)] == 0 {
			b.set(virt, level, api.Entry{Frame: b.begin(level + 1), Table: true})
		}
	}
}

// row lays down all leaves of a row.
func (b *builder) row(r api.Leaf) {
	level := leafLevel(r.Big)
	for off := uint64(0); off < size(r); off += unit(r) {
		b.down(r.Virt+off, level)
		b.set(r.Virt+off, level, api.Entry{Frame: r.Phys + off, Big: r.Big, Write: r.Write, Exec: r.Exec})
	}
}

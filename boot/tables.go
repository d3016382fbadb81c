package boot

import (
	"slices"

	"bulkhead/api"
	"bulkhead/walk"
)

// tables asks whether the tables are a forest, one tree behind the other: that
// each is named once and in its turn is what keeps a table from naming itself,
// or one of another space.
func (l *look) tables() {
	for _, s := range l.image.Subjects {
		l.space(s.Root)
	}
	for _, d := range l.image.Devices {
		if d.Root != -1 {
			l.space(d.Root)
		}
	}
	l.ask(l.next == len(l.image.Tables), api.ErrRoot, l.next)
}

func (l *look) space(root int) {
	l.ask(root == l.next, api.ErrRoot, root)
	l.table(0)
}

// table goes through the table that is next, and through all that it names.
func (l *look) table(level int) {
	own := l.next
	l.next++
	for _, e := range &l.image.Tables[own] {
		if e != 0 {
			l.entry(own, e, level)
		}
	}
}

// entry asks an entry of a table. At the last level no entry names a table, so
// it goes no deeper than the levels.
func (l *look) entry(table int, bits uint64, level int) {
	e, why := walk.Entry(bits, level)
	l.ask(why == api.OK, api.ErrEntry, table)
	if !e.Table {
		l.ask(l.mayMap(e), api.ErrLeaf, table)
		return
	}
	l.ask(l.isTable(l.next) && e.Frame == l.frame(l.next), api.ErrEntry, table)
	l.table(level + 1)
}

// frame is where a table lies: the tables are the image's last pages.
func (l *look) frame(table int) uint64 {
	first := l.size - uint64(len(l.image.Tables))*api.Page
	return l.image.Base + first + uint64(table)*api.Page
}

// mayMap tells whether a leaf lies in RAM outside the image, or in one window.
func (l *look) mayMap(leaf api.Entry) bool {
	size := uint64(api.Page)
	if leaf.Big {
		size = api.Big
	}
	if lies(l.free, leaf.Frame, size) {
		return true
	}
	return slices.ContainsFunc(l.bus.Devices, func(d api.Range) bool {
		return d.Size >= size && leaf.Frame >= d.At && leaf.Frame-d.At <= d.Size-size
	})
}

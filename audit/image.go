package audit

import (
	"iter"

	"bulkhead/api"
	"bulkhead/boot"
	"bulkhead/bundle"
	"bulkhead/pages"
	"bulkhead/walk"
)

// image is one that the loader believes.
type image struct {
	api.Image
	pages int // how many its bytes are
}

// believed is what bytes say, if they may run on a machine of the bus that they
// name. Bytes without form name none, and for that form the loader refuses them
// whatever the bus.
func believed(raw []byte) (image, error) {
	said, _, _ := bundle.Decode(raw)
	i, err := boot.Check(said.Bus, raw)
	if err != nil {
		return image{}, err
	}
	return image{Image: i, pages: len(raw) / api.Page}, nil
}

// roots are the numbers of the actors' roots among the tables, actor by actor;
// -1 of a device without tables.
func (i image) roots() []int {
	var out []int
	for _, s := range i.Subjects {
		out = append(out, s.Root)
	}
	for _, d := range i.Devices {
		out = append(out, d.Root)
	}
	return out
}

// mostLeaves is more than all entries of the tables that an image may have: so
// no leaf is left out.
const mostLeaves = api.MaxImage * api.Entries

// leaves goes through the leaves of a root, by rising virtual address. The loader
// has seen that none of the entries may not be.
func (i image) leaves(root int) iter.Seq[api.Leaf] {
	return func(yield func(api.Leaf) bool) {
		if root < 0 {
			return
		}
		f := forest{first: i.Base + uint64(i.pages-len(i.Tables))*api.Page, tables: i.Tables}
		for leaf := range walk.Leaves(f, f.first+uint64(root)*api.Page, mostLeaves) {
			if !yield(leaf) {
				return
			}
		}
	}
}

// reach is what a root maps, in the fewest rows.
func (i image) reach(root int) []api.Leaf {
	var rows []api.Leaf
	for leaf := range i.leaves(root) {
		rows = append(rows, leaf)
	}
	return pages.Runs(rows)
}

// forest is a memory that holds an image's tables, where they would lie in a
// machine, and nothing else. Tables are walked by whole entries, and by Peek
// alone: the other calls of a memory refuse.
type forest struct {
	first  uint64
	tables []api.Table
}

func (f forest) Peek(at uint64, width int) (uint64, api.Fault) {
	number := (at - f.first) / api.Page
	if at < f.first || number >= uint64(len(f.tables)) || at%8 != 0 || width != 8 {
		return 0, api.Fault{Why: api.ErrBus, At: at}
	}
	return f.tables[number][at%api.Page/8], api.Fault{}
}

func (f forest) Load(at uint64, _ int) (uint64, api.Fault) {
	return 0, api.Fault{Why: api.ErrBus, At: at}
}

func (f forest) Store(at uint64, _ int, _ uint64) api.Fault {
	return api.Fault{Why: api.ErrBus, At: at}
}

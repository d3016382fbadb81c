package pages

import (
	"bulkhead/api"
	"bulkhead/word"
)

// unit tells how many bytes a leaf entry of a row stands for.
func unit(r api.Leaf) uint64 {
	if r.Big {
		return api.Big
	}
	return api.Page
}

// size tells how many bytes a row has that is not refused.
func size(r api.Leaf) uint64 { return uint64(r.Pages) * api.Page }

// end tells the virtual address behind a row that is not refused.
func end(r api.Leaf) uint64 { return r.Virt + size(r) }

// within tells whether so many pages from an address on end at a bound, or
// ahead of it.
func within(at uint64, pages int, bound uint64) bool {
	bytes, fits := word.Mul(uint64(pages), api.Page)
	sum, ok := word.Add(at, bytes)
	return fits && ok && sum <= bound
}

// refusal tells why one of the rows may not be, the first one that may not.
func refusal(rows []api.Leaf) api.Errno {
	taken := uint64(0)
	for _, r := range rows {
		if why := alone(r); why != api.OK {
			return why
		}
		if r.Virt < taken {
			return api.ErrOrder
		}
		taken = end(r)
	}
	return api.OK
}

// alone tells why a row may not be, whatever stands ahead of it.
func alone(r api.Leaf) api.Errno {
	switch {
	case r.Pages < 1 || r.Big && r.Pages%api.Entries != 0:
		return api.ErrSize
	case r.Virt%unit(r) != 0 || r.Phys%unit(r) != 0:
		return api.ErrAlign
	case !within(r.Virt, r.Pages, api.MaxVirt):
		return api.ErrHole
	case !within(r.Phys, r.Pages, api.MaxPhys):
		return api.ErrPhys
	}
	return api.OK
}

// goesOn tells whether a row goes on where another one ends, and is like it.
func goesOn(ahead, r api.Leaf) bool {
	next := ahead
	next.Virt += size(ahead)
	next.Phys += size(ahead)
	next.Pages = r.Pages
	return r == next
}

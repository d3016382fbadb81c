package place

import (
	"bulkhead/api"
	"bulkhead/span"
	"bulkhead/word"
)

// thing is what has a place in RAM: so many bytes, and how they are laid.
type thing struct {
	size uint64
	// find tells where it is to lie, of what is still free.
	find func(free span.Set[uint64]) (uint64, bool)
	// may tells whether it may begin there, whatever else lies where.
	may func(at uint64) api.Errno
}

// from is its bytes, from a place on; false, if they leave 64 bits.
func (t thing) from(at uint64) (span.Span[uint64], bool) {
	last, ok := word.Add(at, t.size-1)
	return span.Span[uint64]{First: at, Last: last}, ok
}

// region is how a region is laid.
func region(r api.Region) thing {
	unit := uint64(api.Page)
	if r.Big {
		unit = api.Big
	}
	if r.Fixed {
		return fixed(r.Size, unit, r.At)
	}
	return loose(r.Size, unit)
}

// image is how the image is laid.
func image(pages int) thing { return loose(uint64(pages)*api.Page, api.Page) }

// loose is laid as low as can be, unit by unit.
func loose(size, unit uint64) thing {
	return thing{
		size: size,
		find: func(free span.Set[uint64]) (uint64, bool) { return free.Fit(size, unit) },
		may: func(at uint64) api.Errno {
			if at%unit != 0 {
				return api.ErrAlign
			}
			return api.OK
		},
	}
}

// fixed is laid at one place and nowhere else: what it takes is not free any
// more when its turn comes.
func fixed(size, unit, place uint64) thing {
	t := loose(size, unit)
	aligned := t.may
	t.find = func(span.Set[uint64]) (uint64, bool) { return place, true }
	t.may = func(at uint64) api.Errno {
		if why := aligned(at); why != api.OK {
			return why
		}
		if at != place {
			return api.ErrOutside
		}
		return api.OK
	}
	return t
}

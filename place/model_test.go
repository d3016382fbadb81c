package place

import (
	"slices"

	"bulkhead/api"
	"bulkhead/check"
	"bulkhead/span"
)

// The chapter's words, without sets: each address, or each page, is asked of
// each span and each region one by one.

// isIn tells whether an address is one of size addresses from at on. (Without
// a sum: how far it is behind at can be told of each.)
func isIn(address, at, size uint64) bool { return address >= at && address-at < size }

func isRam(p api.Policy, address uint64) bool {
	return slices.ContainsFunc(p.Rams, func(r api.Ram) bool { return isIn(address, r.At, r.Size) })
}

func isFree(p api.Policy, address uint64) bool {
	isTaken := slices.ContainsFunc(p.Regions, func(r api.Region) bool { return r.Fixed && isIn(address, r.At, r.Size) })
	return address < api.MaxPhys && isRam(p, address) && !isTaken
}

// freeSpans is Free: between two edges of what there is an address is as its
// neighbours are.
func freeSpans(p api.Policy) []span.Span[uint64] {
	edges := []uint64{0, api.MaxPhys}
	for _, r := range p.Rams {
		edges = append(edges, r.At, r.At+r.Size)
	}
	for _, r := range p.Regions {
		edges = append(edges, r.At, r.At+r.Size)
	}
	slices.Sort(edges)
	edges = slices.Compact(edges)
	var out []span.Span[uint64]
	for i, first := range edges {
		if first >= api.MaxPhys || !isFree(p, first) {
			continue
		}
		last := edges[i+1] - 1
		if n := len(out); n > 0 && out[n-1].Last+1 == first {
			out[n-1].Last = last
			continue
		}
		out = append(out, span.Span[uint64]{First: first, Last: last})
	}
	return out
}

func unitOf(r api.Region) uint64 {
	if r.Big {
		return 2 << 20
	}
	return 4096
}

// pageNumbers are the pages of so many bytes from at on; false, if one has a
// number beyond those of 64 bits.
func pageNumbers(at, size uint64) ([]uint64, bool) {
	var out []uint64
	for k := range size / 4096 {
		n := at/4096 + k
		if n >= 1<<52 {
			return nil, false
		}
		out = append(out, n)
	}
	return out, true
}

// laidOut is Lay: RAM page by page, and what lies on which.
func laidOut(p api.Policy) (api.Layout, int, api.Errno) {
	if _, why := check.Check(p); why != api.OK {
		return api.Layout{}, -1, api.ErrArg
	}
	free := map[uint64]int{}
	for _, r := range p.Rams {
		for n := r.At / 4096; n < (r.At+r.Size)/4096; n++ {
			free[n] = 1
		}
	}
	take := func(at, size uint64) {
		for n := at / 4096; n < (at+size)/4096; n++ {
			delete(free, n)
		}
	}
	var pages []uint64
	for n := range free {
		pages = append(pages, n)
	}
	slices.Sort(pages)
	lowest := func(size, unit uint64) (uint64, bool) {
		for _, n := range pages {
			if n*4096%unit != 0 {
				continue
			}
			numbers, _ := pageNumbers(n*4096, size)
			if !slices.ContainsFunc(numbers, func(n uint64) bool { return free[n] == 0 }) {
				return n * 4096, true
			}
		}
		return 0, false
	}
	l := api.Layout{Regions: make([]uint64, len(p.Regions)), Pages: check.Pages(p)}
	for i, r := range p.Regions {
		if r.Fixed {
			l.Regions[i] = r.At
			take(r.At, r.Size)
		}
	}
	for i, r := range p.Regions {
		if r.Fixed {
			continue
		}
		at, ok := lowest(r.Size, unitOf(r))
		if !ok {
			return api.Layout{}, i, api.ErrSpace
		}
		l.Regions[i] = at
		take(at, r.Size)
	}
	at, ok := lowest(uint64(l.Pages)*4096, 4096)
	if !ok {
		return api.Layout{}, -1, api.ErrSpace
	}
	l.Image = at
	return l, -1, api.OK
}

// held is Holds: each page against each page of those ahead.
func held(p api.Policy, l api.Layout) api.Errno {
	if _, why := check.Check(p); why != api.OK {
		return api.ErrArg
	}
	if len(l.Regions) != len(p.Regions) || l.Pages != check.Pages(p) {
		return api.ErrArg
	}
	all := append(slices.Clone(p.Regions), api.Region{Size: uint64(l.Pages) * 4096})
	places := append(slices.Clone(l.Regions), l.Image)
	ahead := map[uint64]int{}
	for i, r := range all {
		if places[i]%unitOf(r) != 0 {
			return api.ErrAlign
		}
		numbers, ok := pageNumbers(places[i], r.Size)
		isOff := slices.ContainsFunc(numbers, func(n uint64) bool { return !isRam(p, n*4096) })
		if !ok || isOff || r.Fixed && places[i] != r.At {
			return api.ErrOutside
		}
		if slices.ContainsFunc(numbers, func(n uint64) bool { return ahead[n] > 0 }) {
			return api.ErrOverlap
		}
		for _, n := range numbers {
			ahead[n]++
		}
	}
	return api.OK
}

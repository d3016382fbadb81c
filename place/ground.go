package place

import (
	"bulkhead/api"
	"bulkhead/span"
	"bulkhead/word"
)

// ground is all RAM.
func ground(p api.Policy) span.Set[uint64] {
	var spans []span.Span[uint64]
	for _, r := range p.Rams {
		spans = append(spans, below(r.At, r.Size))
	}
	return span.Of(spans...)
}

// taken is what the fixed regions take.
func taken(p api.Policy) span.Set[uint64] {
	var spans []span.Span[uint64]
	for _, r := range p.Regions {
		if r.Fixed {
			spans = append(spans, below(r.At, r.Size))
		}
	}
	return span.Of(spans...)
}

// below is those of so many addresses from at on that are below MaxPhys.
func below(at, size uint64) span.Span[uint64] {
	if size == 0 {
		// The last of no addresses would be the one ahead of at, and ahead of
		// 0 there is none.
		return span.Span[uint64]{First: 1, Last: 0}
	}
	end, ok := word.Add(at, size)
	if !ok || end > api.MaxPhys {
		end = api.MaxPhys
	}
	return span.Span[uint64]{First: at, Last: end - 1}
}

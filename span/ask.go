package span

import (
	"slices"
	"sort"

	"bulkhead/word"
)

// from tells the spans that don't end below p.
func (s Set[N]) from(p N) []Span[N] {
	i := sort.Search(len(s.row), func(i int) bool { return s.row[i].Last >= p })
	return s.row[i:]
}

// Same tells whether two sets have the same points.
func (s Set[N]) Same(t Set[N]) bool { return slices.Equal(s.row, t.row) }

// Has tells whether a point is in it.
func (s Set[N]) Has(p N) bool { return s.Covers(Span[N]{p, p}) }

// Covers tells whether all points of a span are in it.
func (s Set[N]) Covers(x Span[N]) bool {
	if x.empty() {
		return true
	}
	rest := s.from(x.First)
	return len(rest) > 0 && rest[0].First <= x.First && x.Last <= rest[0].Last
}

// Touches tells whether a point of a span is in it.
func (s Set[N]) Touches(x Span[N]) bool {
	p, ok := s.Next(x.First)
	return ok && p <= x.Last
}

// Next tells the least point that is not below p.
func (s Set[N]) Next(p N) (N, bool) {
	rest := s.from(p)
	if len(rest) == 0 {
		return 0, false
	}
	return max(p, rest[0].First), true
}

// Size tells how many points there are.
func (s Set[N]) Size() (uint64, bool) {
	n, ok := uint64(0), true
	for _, x := range s.row {
		// Below the last point of a span no sum can leave 64 bits.
		n, ok = word.Add(n+uint64(x.beyond()), 1)
	}
	return n, ok
}

// Largest tells the longest span.
func (s Set[N]) Largest() (Span[N], bool) {
	if len(s.row) == 0 {
		return Span[N]{}, false
	}
	most := s.row[0]
	for _, x := range s.row[1:] {
		if x.beyond() > most.beyond() {
			most = x
		}
	}
	return most, true
}

// Fit tells the least multiple of align at which so many points begin.
func (s Set[N]) Fit(size, align N) (N, bool) {
	if size == 0 {
		return 0, false
	}
	for _, x := range s.row {
		p, ok := word.Up(x.First, align)
		if !ok {
			return 0, false
		}
		if last, ok := word.Add(p, size-1); ok && last <= x.Last {
			return p, true
		}
	}
	return 0, false
}

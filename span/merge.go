package span

import "bulkhead/word"

// With is the set and a span.
func (s Set[N]) With(x Span[N]) Set[N] { return s.Or(Of(x)) }

// Without is the set without a span.
func (s Set[N]) Without(x Span[N]) Set[N] { return s.Less(Of(x)) }

// Or is what is in one of two sets.
func (s Set[N]) Or(t Set[N]) Set[N] {
	return merge(s, t, func(inS, inT bool) bool { return inS || inT })
}

// Meet is what is in both.
func (s Set[N]) Meet(t Set[N]) Set[N] {
	return merge(s, t, func(inS, inT bool) bool { return inS && inT })
}

// Less is what is in s and not in t.
func (s Set[N]) Less(t Set[N]) Set[N] {
	return merge(s, t, func(inS, inT bool) bool { return inS && !inT })
}

// merge walks over both rows from 0 up to the type's greatest number, and
// keeps the points that keep asks for. It goes stretch by stretch: within one
// no span of either row begins or ends, so its points are all kept or none.
func merge[N word.Number](s, t Set[N], keep func(inS, inT bool) bool) Set[N] {
	var row []Span[N]
	restS, restT := s.row, t.row
	for first := N(0); ; {
		lastS, inS := stretch(restS, first)
		lastT, inT := stretch(restT, first)
		last := min(lastS, lastT)
		if keep(inS, inT) {
			row = join(row, Span[N]{first, last})
		}
		if last == ^N(0) {
			return Set[N]{row}
		}
		restS, restT = behind(restS, last), behind(restT, last)
		first = last + 1
	}
}

// stretch tells up to which number all numbers from first on are in the row,
// or all are out of it, and which of the two. No span of the row ends below
// first.
func stretch[N word.Number](row []Span[N], first N) (N, bool) {
	if len(row) == 0 {
		return ^N(0), false
	}
	if first < row[0].First {
		return row[0].First - 1, false
	}
	return row[0].Last, true
}

// behind tells the spans that are left behind last, at which at most the first
// one of them ends.
func behind[N word.Number](row []Span[N], last N) []Span[N] {
	if len(row) > 0 && row[0].Last == last {
		return row[1:]
	}
	return row
}

package span

import (
	"slices"
	"testing"

	"bulkhead/word"
)

type (
	small uint8
	place uint64
)

// row writes spans down as pairs of first and last.
func row[N word.Number](ends ...N) []Span[N] {
	var out []Span[N]
	for i := 0; i+1 < len(ends); i += 2 {
		out = append(out, Span[N]{ends[i], ends[i+1]})
	}
	return out
}

// set makes a set of such pairs.
func set[N word.Number](ends ...N) Set[N] { return Of(row(ends...)...) }

// wantRow holds Spans and All of a set against pairs.
func wantRow[N word.Number](t *testing.T, what string, s Set[N], ends ...N) {
	t.Helper()
	want := row(ends...)
	if got := s.Spans(); !slices.Equal(got, want) {
		t.Errorf("%s: Spans: %v, want %v", what, got, want)
	}
	if got := slices.Collect(s.All()); !slices.Equal(got, want) {
		t.Errorf("%s: All: %v, want %v", what, got, want)
	}
}

// wantPair holds a number and a bool against those that it should be.
func wantPair[N word.Number](t *testing.T, what string, n N, ok bool, want N, wantOK bool) {
	t.Helper()
	if n != want || ok != wantOK {
		t.Errorf("%s: %d %v, want %d %v", what, n, ok, want, wantOK)
	}
}

// points are all numbers of uint8, each of them in a set or not: the meaning
// of a set, written down without spans.
type points [256]bool

func (p *points) add(x Span[uint8]) {
	for i := int(x.First); i <= int(x.Last); i++ {
		p[i] = true
	}
}

// spans tells the fewest spans of the points, number by number.
func (p *points) spans() []Span[uint8] {
	var out []Span[uint8]
	for i, in := range p {
		switch {
		case in && (i == 0 || !p[i-1]):
			out = append(out, Span[uint8]{uint8(i), uint8(i)})
		case in:
			out[len(out)-1].Last = uint8(i)
		}
	}
	return out
}

// among tells the points of both that keep asks for.
func among(p, q *points, keep func(a, b bool) bool) *points {
	var out points
	for i := range p {
		out[i] = keep(p[i], q[i])
	}
	return &out
}

// sample makes a set and its points, one for each pattern of 9 bits: both ends
// of the type, with spans that touch and gaps of one number, and one number in
// the middle.
func sample(pattern int) (Set[uint8], *points) {
	var spans []Span[uint8]
	var p points
	for bit, n := range []uint8{255, 0, 254, 1, 252, 3, 253, 2, 100} {
		if pattern>>bit&1 == 1 {
			spans = append(spans, Span[uint8]{n, n})
			p[n] = true
		}
	}
	return Of(spans...), &p
}

const samples = 1 << 9

// noise is a row of numbers that is the same in every run.
type noise uint32

func (n *noise) next() uint8 {
	*n = *n*1664525 + 1013904223
	return uint8(*n >> 24)
}

// wild makes a set of some spans, of which some have no points and many meet.
func (n *noise) wild(most int) ([]Span[uint8], *points) {
	var spans []Span[uint8]
	var p points
	for range int(n.next()) % (most + 1) {
		x := Span[uint8]{First: n.next()}
		x.Last = x.First + n.next()%24 - 3
		spans = append(spans, x)
		p.add(x)
	}
	return spans, &p
}

// P2.1: Of takes spans in every order, spans that meet, that touch, and those
// of no points.
func TestOf(t *testing.T) {
	wantRow(t, "of nothing", Of[uint8]())
	wantRow(t, "of an empty list", Of([]Span[uint8]{}...))
	wantRow(t, "of a span of no points", set[uint8](20, 19))
	wantRow(t, "of the emptiest span", set[uint8](255, 0))
	wantRow(t, "of spans that touch", set[uint8](3, 5, 6, 9, 20, 19), 3, 9)
	wantRow(t, "of spans that touch, turned", set[uint8](20, 19, 6, 9, 3, 5), 3, 9)
	wantRow(t, "of spans with one number between", set[uint8](3, 5, 7, 9), 3, 5, 7, 9)
	wantRow(t, "of spans that meet", set[uint8](3, 7, 7, 9), 3, 9)
	wantRow(t, "of a span within another", set[uint8](3, 20, 5, 6), 3, 20)
	wantRow(t, "of a span within another, with the same first", set[uint8](3, 4, 3, 20, 3, 9), 3, 20)
	wantRow(t, "of a span within two ahead", set[uint8](0, 30, 5, 6, 31, 32, 33, 33), 0, 33)
	wantRow(t, "of a span twice", set[uint8](3, 4, 3, 4), 3, 4)
	wantRow(t, "of no points between", set[uint8](3, 4, 5, 4, 6, 7), 3, 4, 6, 7)
	wantRow(t, "of the whole", set[uint8](0, 255), 0, 255)
	wantRow(t, "of the whole in two", set[uint8](128, 255, 0, 127), 0, 255)
	wantRow(t, "of both ends", set[uint8](255, 255, 0, 0), 0, 0, 255, 255)
	wantRow(t, "of spans at the greatest", set[uint8](250, 255, 255, 255, 249, 249), 249, 255)
}

func TestOfByPoints(t *testing.T) {
	for pattern := range samples {
		s, p := sample(pattern)
		wantRow(t, "sample", s, flat(p.spans())...)
	}
	var n noise
	for range 3000 {
		spans, p := n.wild(12)
		wantRow(t, "wild", Of(spans...), flat(p.spans())...)
	}
}

func flat(spans []Span[uint8]) []uint8 {
	var out []uint8
	for _, x := range spans {
		out = append(out, x.First, x.Last)
	}
	return out
}

// A Set is told by its points alone: how it came about is not.
func TestOneSetOneRow(t *testing.T) {
	want := set[uint8](10, 20)
	for i, s := range []Set[uint8]{
		set[uint8](15, 20, 10, 14),
		set[uint8](10, 30).Without(Span[uint8]{21, 40}),
		set[uint8](10, 20, 40, 50).Meet(set[uint8](0, 39)),
		set[uint8](10, 20).Without(Span[uint8]{15, 15}).With(Span[uint8]{15, 15}),
		set[uint8](0, 255).Less(set[uint8](0, 9, 21, 255)),
	} {
		wantRow(t, "made otherwise", s, 10, 20)
		if !s.Same(want) || !want.Same(s) {
			t.Errorf("set %d is not the same", i)
		}
	}
}

// The zero Set is the empty set, and may be asked all.
func TestZeroSet(t *testing.T) {
	var none Set[uint16]
	full := set[uint16](0, 65535)
	wantRow(t, "zero", none)
	wantRow(t, "zero with", none.With(Span[uint16]{1, 2}), 1, 2)
	wantRow(t, "zero without", none.Without(Span[uint16]{1, 2}))
	wantRow(t, "zero or", none.Or(full), 0, 65535)
	wantRow(t, "zero or zero", none.Or(none))
	wantRow(t, "zero meet", none.Meet(full))
	wantRow(t, "zero less", none.Less(full))
	wantRow(t, "less zero", full.Less(none), 0, 65535)
	if !none.Same(Of[uint16]()) || !none.Same(full.Less(full)) || none.Same(full) || full.Same(none) {
		t.Error("Same of the zero set")
	}
	if none.Has(0) || none.Covers(Span[uint16]{0, 0}) || !none.Covers(Span[uint16]{9, 3}) {
		t.Error("Has, Covers of the zero set")
	}
	if none.Touches(Span[uint16]{0, 65535}) || none.Touches(Span[uint16]{9, 3}) {
		t.Error("Touches of the zero set")
	}
	next, ok := none.Next(0)
	wantPair(t, "Next", next, ok, 0, false)
	size, ok := none.Size()
	wantPair(t, "Size", size, ok, 0, true)
	fit, ok := none.Fit(1, 1)
	wantPair(t, "Fit", fit, ok, 0, false)
	if x, ok := none.Largest(); x != (Span[uint16]{}) || ok {
		t.Errorf("Largest: %v %v", x, ok)
	}
}

// P2.3: Spans is the caller's own; All may be left early and begun again.
func TestSpansAndAll(t *testing.T) {
	s := set[uint8](1, 1, 3, 3, 5, 9)
	list := s.Spans()
	clear(list[:cap(list)])
	wantRow(t, "behind a change of Spans", s, 1, 1, 3, 3, 5, 9)
	list = append(s.Spans(), Span[uint8]{200, 201})
	list[0].Last = 250
	wantRow(t, "behind an append to Spans", s, 1, 1, 3, 3, 5, 9)

	all := s.All()
	seen := 0
	for x := range all {
		seen++
		if x.First == 3 {
			break
		}
	}
	if seen != 2 {
		t.Errorf("left early: %d told", seen)
	}
	for range 2 {
		if got := slices.Collect(all); !slices.Equal(got, row[uint8](1, 1, 3, 3, 5, 9)) {
			t.Errorf("again: %v", got)
		}
	}
	pairs := 0
	for range all {
		for range all {
			pairs++
		}
	}
	if pairs != 9 {
		t.Errorf("one within the other: %d pairs", pairs)
	}
	for x := range Of[uint8]().All() {
		t.Errorf("All of the empty set tells %v", x)
	}
}

// What is handed in is neither changed nor kept, its spare room included.
func TestHandedInLists(t *testing.T) {
	room := row[uint8](40, 50, 10, 20, 9, 3, 20, 30, 77, 78)
	before := slices.Clone(room)
	s := Of(room[:4]...)
	if !slices.Equal(room, before) {
		t.Errorf("Of has changed its list: %v", room)
	}
	clear(room)
	wantRow(t, "behind a change of the list", s, 10, 30, 40, 50)
}

// No call changes a Set, and no answer changes one either.
func TestSetsStay(t *testing.T) {
	s, u := set[uint8](10, 20, 30, 40), set[uint8](15, 35)
	for range 2 {
		s.With(Span[uint8]{21, 29})
		s.With(Span[uint8]{41, 90}).With(Span[uint8]{0, 9})
		s.Without(Span[uint8]{0, 255})
		s.Or(u).With(Span[uint8]{41, 41})
		s.Meet(u).Without(Span[uint8]{16, 33})
		s.Less(u).With(Span[uint8]{15, 15})
		s.Or(Of[uint8]()).With(Span[uint8]{21, 22})
		s.Less(Of[uint8]()).Without(Span[uint8]{10, 10})
		s.Fit(3, 2)
		s.Next(25)
		wantRow(t, "s", s, 10, 20, 30, 40)
		wantRow(t, "u", u, 15, 35)
	}
	copied := s
	s = s.With(Span[uint8]{25, 25})
	wantRow(t, "the copy", copied, 10, 20, 30, 40)
	wantRow(t, "the new one", s, 10, 20, 25, 25, 30, 40)
	one, two := copied.With(Span[uint8]{50, 50}), copied.With(Span[uint8]{60, 60})
	wantRow(t, "the one", one, 10, 20, 30, 40, 50, 50)
	wantRow(t, "the other", two, 10, 20, 30, 40, 60, 60)
}

package span

import (
	"slices"
	"testing"

	"bulkhead/word"
)

// P2.1: the edges of With and Without.
func TestWithAndWithout(t *testing.T) {
	s := set[uint8](10, 20)
	wantRow(t, "with a touch above", s.With(Span[uint8]{21, 21}), 10, 21)
	wantRow(t, "with a touch below", s.With(Span[uint8]{9, 9}), 9, 20)
	wantRow(t, "with one number between", s.With(Span[uint8]{22, 22}), 10, 20, 22, 22)
	wantRow(t, "with no points", s.With(Span[uint8]{5, 4}), 10, 20)
	wantRow(t, "with what is in it", s.With(Span[uint8]{12, 14}), 10, 20)
	wantRow(t, "with the whole", s.With(Span[uint8]{0, 255}), 0, 255)
	wantRow(t, "with the greatest", s.With(Span[uint8]{255, 255}), 10, 20, 255, 255)
	wantRow(t, "with 0", s.With(Span[uint8]{0, 0}), 0, 0, 10, 20)
	wantRow(t, "without the middle", s.Without(Span[uint8]{12, 14}), 10, 11, 15, 20)
	wantRow(t, "without the lower end", s.Without(Span[uint8]{0, 10}), 11, 20)
	wantRow(t, "without the upper end", s.Without(Span[uint8]{20, 255}), 10, 19)
	wantRow(t, "without no points", s.Without(Span[uint8]{14, 12}), 10, 20)
	wantRow(t, "without what isn't in it", s.Without(Span[uint8]{21, 255}), 10, 20)
	wantRow(t, "without itself", s.Without(Span[uint8]{10, 20}))
	full := set[uint8](0, 255)
	wantRow(t, "the whole without 0", full.Without(Span[uint8]{0, 0}), 1, 255)
	wantRow(t, "the whole without the greatest", full.Without(Span[uint8]{255, 255}), 0, 254)
	wantRow(t, "the whole without the whole", full.Without(Span[uint8]{0, 255}))
}

// P2.1: Or, Meet, Less over spans that meet, touch, and lie within.
func TestOrMeetLess(t *testing.T) {
	s, u := set[uint8](10, 20), set[uint8](0, 12, 15, 16, 18, 255)
	wantRow(t, "or", s.Or(u), 0, 255)
	wantRow(t, "meet", s.Meet(u), 10, 12, 15, 16, 18, 20)
	wantRow(t, "less", s.Less(u), 13, 14, 17, 17)
	wantRow(t, "less, turned", u.Less(s), 0, 9, 21, 255)
	wantRow(t, "touch", set[uint8](1, 3).Or(set[uint8](4, 4)), 1, 4)
	wantRow(t, "touch many", set[uint8](1, 1, 3, 3, 5, 5).Or(set[uint8](2, 2, 4, 4)), 1, 5)
	wantRow(t, "meet at one point", set[uint8](1, 3).Meet(set[uint8](3, 9)), 3, 3)
	wantRow(t, "no meeting", set[uint8](1, 3).Meet(set[uint8](4, 9)))
	wantRow(t, "touching ends are not a meeting", set[uint8](1, 3, 5, 5).Meet(set[uint8](4, 4)))
	wantRow(t, "less itself", u.Less(u))
	wantRow(t, "or itself", u.Or(u), 0, 12, 15, 16, 18, 255)
	wantRow(t, "meet itself", u.Meet(u), 0, 12, 15, 16, 18, 255)
}

// wantMerges holds the three operations against the points, number by number.
func wantMerges(t *testing.T, s, u Set[uint8], p, q *points) {
	t.Helper()
	for _, c := range []struct {
		what string
		got  Set[uint8]
		keep func(a, b bool) bool
	}{
		{"Or", s.Or(u), func(a, b bool) bool { return a || b }},
		{"Meet", s.Meet(u), func(a, b bool) bool { return a && b }},
		{"Less", s.Less(u), func(a, b bool) bool { return a && !b }},
	} {
		if want := among(p, q, c.keep).spans(); !slices.Equal(c.got.Spans(), want) {
			t.Errorf("%v %s %v: %v, want %v", s.row, c.what, u.row, c.got.row, want)
		}
	}
	if same := *p == *q; s.Same(u) != same {
		t.Errorf("%v Same %v: not %v", s.row, u.row, same)
	}
}

func TestMergesByPoints(t *testing.T) {
	var all []Set[uint8]
	var means []*points
	for pattern := 0; pattern < samples; pattern += 3 {
		s, p := sample(pattern)
		all, means = append(all, s), append(means, p)
	}
	for i := range all {
		for k := range all {
			wantMerges(t, all[i], all[k], means[i], means[k])
		}
	}
	var n noise
	for range 3000 {
		a, p := n.wild(10)
		b, q := n.wild(10)
		wantMerges(t, Of(a...), Of(b...), p, q)
	}
}

func TestWithByPoints(t *testing.T) {
	var n noise
	for range 3000 {
		a, p := n.wild(8)
		x := Span[uint8]{n.next(), n.next()}
		var q points
		q.add(x)
		s := Of(a...)
		with := among(p, &q, func(a, b bool) bool { return a || b })
		without := among(p, &q, func(a, b bool) bool { return a && !b })
		wantRow(t, "With", s.With(x), flat(with.spans())...)
		wantRow(t, "Without", s.Without(x), flat(without.spans())...)
	}
}

// wantEnds asks the operations at both ends of a type.
func wantEnds[N word.Number](t *testing.T) {
	t.Helper()
	top := ^N(0)
	full := set(0, top)
	wantRow(t, "whole", full, 0, top)
	wantRow(t, "whole of touching halves", set(top/2+1, top, 0, top/2), 0, top)
	wantRow(t, "without 0", full.Without(Span[N]{0, 0}), 1, top)
	wantRow(t, "without the greatest", full.Without(Span[N]{top, top}), 0, top-1)
	wantRow(t, "without the middle", full.Without(Span[N]{2, top - 2}), 0, 1, top-1, top)
	wantRow(t, "with the greatest", set[N](0, 1).With(Span[N]{top, top}), 0, 1, top, top)
	wantRow(t, "with the touching greatest", set(top-1, top-1).With(Span[N]{top, top}), top-1, top)
	wantRow(t, "or", set(0, 0, top, top).Or(set(1, top-1)), 0, top)
	wantRow(t, "meet", set(0, 0, top, top).Meet(full), 0, 0, top, top)
	wantRow(t, "less", full.Less(set(0, 0, top, top)), 1, top-1)
	wantRow(t, "less itself", full.Less(full))
	if !full.Same(set(1, top).With(Span[N]{0, 0})) || full.Same(set(1, top)) || full.Same(set(0, top-1)) {
		t.Error("Same of the whole")
	}
}

func TestEndsOfEachType(t *testing.T) {
	wantEnds[uint8](t)
	wantEnds[uint16](t)
	wantEnds[uint32](t)
	wantEnds[uint64](t)
	wantEnds[small](t)
	wantEnds[place](t)
}

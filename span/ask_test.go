package span

import (
	"testing"

	"bulkhead/word"
)

// P2.2: Has, Covers and Touches at the ends of spans.
func TestAsks(t *testing.T) {
	s := set[uint8](4, 6, 9, 9)
	for _, c := range []struct {
		x               Span[uint8]
		covers, touches bool
	}{
		{Span[uint8]{4, 6}, true, true},
		{Span[uint8]{5, 5}, true, true},
		{Span[uint8]{9, 9}, true, true},
		{Span[uint8]{4, 9}, false, true},
		{Span[uint8]{3, 4}, false, true},
		{Span[uint8]{6, 7}, false, true},
		{Span[uint8]{0, 4}, false, true},
		{Span[uint8]{0, 3}, false, false},
		{Span[uint8]{7, 8}, false, false},
		{Span[uint8]{7, 9}, false, true},
		{Span[uint8]{10, 255}, false, false},
		{Span[uint8]{0, 255}, false, true},
		{Span[uint8]{9, 3}, true, false},
		{Span[uint8]{6, 4}, true, false},
		{Span[uint8]{255, 0}, true, false},
	} {
		if s.Covers(c.x) != c.covers || s.Touches(c.x) != c.touches {
			t.Errorf("%v: Covers %v, Touches %v", c.x, s.Covers(c.x), s.Touches(c.x))
		}
	}
}

func TestHasAndNextByPoints(t *testing.T) {
	for pattern := range samples {
		s, p := sample(pattern)
		wantOK, want := false, uint8(0)
		for i := 255; i >= 0; i-- {
			n := uint8(i)
			if s.Has(n) != p[i] {
				t.Fatalf("%v: Has(%d): %v", s.row, n, !p[i])
			}
			if p[i] {
				wantOK, want = true, n
			}
			got, ok := s.Next(n)
			wantPair(t, "Next", got, ok, want, wantOK)
		}
	}
}

func TestCoversAndTouchesByPoints(t *testing.T) {
	var n noise
	for range 20000 {
		spans, p := n.wild(6)
		s, x := Of(spans...), Span[uint8]{n.next(), n.next()}
		covers, touches := true, false
		for i := int(x.First); i <= int(x.Last); i++ {
			covers, touches = covers && p[i], touches || p[i]
		}
		if s.Covers(x) != covers || s.Touches(x) != touches {
			t.Errorf("%v: %v: Covers %v, Touches %v", s.row, x, s.Covers(x), s.Touches(x))
		}
	}
}

// P2.2: one set is another only if all points are.
func TestSame(t *testing.T) {
	s := set[uint8](1, 4, 7, 9)
	for i, u := range []Set[uint8]{set[uint8](1, 4), set[uint8](1, 4, 7, 8), set[uint8](1, 4, 8, 9), set[uint8](1, 9), set[uint8](1, 4, 7, 9, 255, 255)} {
		if s.Same(u) || u.Same(s) {
			t.Errorf("the same as set %d", i)
		}
	}
	if !s.Same(set[uint8](8, 9, 7, 7, 1, 1, 2, 4, 3, 2)) {
		t.Error("not the same as itself, made otherwise")
	}
}

// wantAsks asks the questions at both ends of a type.
func wantAsks[N word.Number](t *testing.T) {
	t.Helper()
	top := ^N(0)
	full, ends := set(0, top), set(0, 0, top, top)
	if !full.Has(0) || !full.Has(top) || !ends.Has(0) || !ends.Has(top) || ends.Has(1) || ends.Has(top-1) {
		t.Error("Has")
	}
	if !full.Covers(Span[N]{0, top}) || ends.Covers(Span[N]{0, top}) || !ends.Covers(Span[N]{top, top}) || !ends.Covers(Span[N]{top, 0}) {
		t.Error("Covers")
	}
	if !full.Touches(Span[N]{0, top}) || !ends.Touches(Span[N]{1, top}) || ends.Touches(Span[N]{1, top - 1}) || full.Touches(Span[N]{top, 0}) {
		t.Error("Touches")
	}
	for _, c := range []struct {
		s       Set[N]
		p, want N
		ok      bool
	}{{full, 0, 0, true}, {full, top, top, true}, {ends, 1, top, true}, {ends, 0, 0, true}, {set(0, top-1), top, 0, false}, {set[N](0, 0), 1, 0, false}} {
		next, ok := c.s.Next(c.p)
		wantPair(t, "Next", next, ok, c.want, c.ok)
	}
	if x, ok := full.Largest(); x != (Span[N]{0, top}) || !ok {
		t.Errorf("Largest of the whole: %v %v", x, ok)
	}
	if x, ok := ends.Largest(); x != (Span[N]{0, 0}) || !ok {
		t.Errorf("Largest of both ends: %v %v", x, ok)
	}
	n, ok := ends.Size()
	wantPair(t, "Size of both ends", n, ok, 2, true)
	n, ok = full.Without(Span[N]{1, 1}).Size()
	wantPair(t, "Size of the whole but one", n, ok, uint64(top), true)
}

func TestAsksOfEachType(t *testing.T) {
	wantAsks[uint8](t)
	wantAsks[uint16](t)
	wantAsks[uint32](t)
	wantAsks[uint64](t)
	wantAsks[small](t)
	wantAsks[place](t)
}

// P2.4: Size of a whole type fits of all but the types of 64 bits.
func TestSizeOfWholeTypes(t *testing.T) {
	n, ok := set[uint8](0, 255).Size()
	wantPair(t, "uint8", n, ok, 256, true)
	n, ok = set[small](0, 255).Size()
	wantPair(t, "small", n, ok, 256, true)
	n, ok = set[uint16](0, 1<<16-1).Size()
	wantPair(t, "uint16", n, ok, 1<<16, true)
	n, ok = set[uint32](0, 1<<32-1).Size()
	wantPair(t, "uint32", n, ok, 1<<32, true)
	n, ok = set[uint64](0, 1<<64-1).Size()
	wantPair(t, "uint64", n, ok, 0, false)
	n, ok = set[place](0, 1<<64-1).Size()
	wantPair(t, "place", n, ok, 0, false)
	n, ok = set[uint64](1, 1<<64-1).Size()
	wantPair(t, "uint64 but 0", n, ok, 1<<64-1, true)
	n, ok = set[uint64](0, 1<<63-1, 1<<63+1, 1<<64-1).Size()
	wantPair(t, "uint64 but its middle", n, ok, 1<<64-1, true)
}

func TestSizeByPoints(t *testing.T) {
	for pattern := range samples {
		s, p := sample(pattern)
		want := uint64(0)
		for _, in := range p {
			if in {
				want++
			}
		}
		n, ok := s.Size()
		wantPair(t, "Size", n, ok, want, true)
	}
}

// P2.4: the span of most points, of several the lowest.
func TestLargest(t *testing.T) {
	for _, c := range []struct {
		s    Set[uint8]
		want Span[uint8]
		ok   bool
	}{
		{set[uint8](1, 2, 5, 6), Span[uint8]{1, 2}, true},
		{set[uint8](1, 2, 5, 7), Span[uint8]{5, 7}, true},
		{set[uint8](1, 3, 5, 6), Span[uint8]{1, 3}, true},
		{set[uint8](1, 1, 5, 9, 20, 24, 30, 33), Span[uint8]{5, 9}, true},
		{set[uint8](0, 99, 150, 255), Span[uint8]{150, 255}, true},
		{set[uint8](3, 5, 6, 9, 20, 24), Span[uint8]{3, 9}, true},
		{set[uint8](0, 0), Span[uint8]{}, true},
		{set[uint8](9, 3), Span[uint8]{}, false},
	} {
		if x, ok := c.s.Largest(); x != c.want || ok != c.ok {
			t.Errorf("%v: %v %v, want %v %v", c.s.row, x, ok, c.want, c.ok)
		}
	}
}

// P2.5: the table, and the edges of size, align and the type.
func TestFit(t *testing.T) {
	for _, c := range []struct {
		s           Set[uint8]
		size, align uint8
		want        uint8
		ok          bool
	}{
		{set[uint8](10, 20), 4, 8, 16, true},
		{set[uint8](10, 20), 5, 8, 16, true},
		{set[uint8](10, 20), 6, 8, 0, false},
		{set[uint8](10, 20), 11, 1, 10, true},
		{set[uint8](10, 20), 12, 1, 0, false},
		{set[uint8](10, 20), 0, 1, 0, false},
		{set[uint8](10, 20), 1, 0, 0, false},
		{set[uint8](10, 20), 0, 0, 0, false},
		{set[uint8](10, 20), 1, 21, 0, false},
		{set[uint8](0, 20), 0, 1, 0, false},
		{set[uint8](250, 255), 6, 1, 250, true},
		{set[uint8](250, 255), 7, 1, 0, false},
		{set[uint8](250, 255), 255, 1, 0, false},
		{set[uint8](250, 255), 1, 200, 0, false},
		{set[uint8](250, 255), 1, 255, 255, true},
		{set[uint8](250, 255), 2, 255, 0, false},
		{set[uint8](0, 9), 3, 200, 0, true},
		{set[uint8](0, 255), 1, 7, 0, true},
		{set[uint8](0, 255), 255, 255, 0, true},
		{set[uint8](1, 255), 255, 1, 1, true},
		{set[uint8](1, 2, 8, 30), 3, 4, 8, true},
		{set[uint8](1, 2, 5, 6, 9, 15), 3, 4, 12, true},
		{set[uint8](1, 2, 5, 6), 3, 1, 0, false},
		{set[uint8](3, 5, 6, 9), 7, 3, 3, true},
		{set[uint8](0, 0, 4, 9), 2, 2, 4, true},
	} {
		p, ok := c.s.Fit(c.size, c.align)
		if p != c.want || ok != c.ok {
			t.Errorf("%v: Fit(%d, %d): %d %v, want %d %v", c.s.row, c.size, c.align, p, ok, c.want, c.ok)
		}
	}
}

// fit is what P2.5 says, number by number.
func fit(p *points, size, align int) (uint8, bool) {
	for at := 0; size > 0 && align > 0 && at+size <= 256; at += align {
		all := true
		for _, in := range p[at : at+size] {
			all = all && in
		}
		if all {
			return uint8(at), true
		}
	}
	return 0, false
}

func TestFitByPoints(t *testing.T) {
	var n noise
	for range 20000 {
		spans, p := n.wild(6)
		size, align := n.next()%24, n.next()
		if n.next() < 200 {
			align %= 20
		}
		want, wantOK := fit(p, int(size), int(align))
		got, ok := Of(spans...).Fit(size, align)
		wantPair(t, "Fit", got, ok, want, wantOK)
	}
}

// wantFits asks Fit at the greatest numbers of a type.
func wantFits[N word.Number](t *testing.T) {
	t.Helper()
	top := ^N(0)
	for _, c := range []struct {
		s           Set[N]
		size, align N
		want        N
		ok          bool
	}{
		{set(0, top), top, 1, 0, true},
		{set(0, top), 0, 1, 0, false},
		{set(0, top), 1, 0, 0, false},
		{set(1, top), top, 1, 1, true},
		{set(2, top), top, 1, 0, false},
		{set(0, top), 1, top, 0, true},
		{set(1, top), 1, top, top, true},
		{set(1, top), 2, top, 0, false},
		{set(1, top), 1, top/2 + 1, top/2 + 1, true},
		{set(top/2+2, top), 1, top/2 + 1, 0, false},
		{set(top-5, top), 6, 1, top - 5, true},
		{set(top-5, top), 7, 1, 0, false},
		{set(top-5, top), 2, 2, top - 5, true},
		{set(top-4, top), 4, 4, top - 3, true},
		{set(top-4, top), 5, 4, 0, false},
		{set(top, top), 1, 1, top, true},
		{set(top, top), top, 1, 0, false},
	} {
		p, ok := c.s.Fit(c.size, c.align)
		if p != c.want || ok != c.ok {
			t.Errorf("%v: Fit(%d, %d): %d %v, want %d %v", c.s.row, c.size, c.align, p, ok, c.want, c.ok)
		}
	}
}

func TestFitOfEachType(t *testing.T) {
	wantFits[uint8](t)
	wantFits[uint16](t)
	wantFits[uint32](t)
	wantFits[uint64](t)
	wantFits[small](t)
	wantFits[place](t)
}

// A set of many spans is made, merged and asked in little more time than its
// spans take: R6 lets it be long.
func TestManySpans(t *testing.T) {
	const n = 1 << 17
	var odd, even []Span[uint32]
	for i := n - 1; i >= 0; i-- {
		at := uint32(i) * 4
		odd, even = append(odd, Span[uint32]{at, at + 1}), append(even, Span[uint32]{at + 2, at + 3})
	}
	s, u := Of(odd...), Of(even...)
	wantRow(t, "or", s.Or(u), 0, 4*n-1)
	wantRow(t, "meet", s.Meet(u))
	if !s.Less(u).Same(s) {
		t.Error("Less of what does not meet")
	}
	for i := range uint32(n) {
		if !s.Has(4*i+1) || s.Has(4*i+2) {
			t.Fatalf("Has at %d", 4*i)
		}
	}
}

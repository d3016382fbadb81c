package place

import (
	"math"
	"slices"
	"testing"

	"bulkhead/api"
	"bulkhead/check"
	"bulkhead/span"
)

func TestFree(t *testing.T) {
	t.Parallel()
	const top = api.MaxPhys
	type spans = []span.Span[uint64]
	for _, c := range []struct {
		name    string
		rams    []api.Ram
		regions []api.Region
		want    spans
	}{
		{"no RAM", nil, []api.Region{{Size: 4096, Fixed: true}}, nil},
		{"RAM alone", []api.Ram{{At: 4096, Size: 8192}}, nil, spans{{First: 4096, Last: 12287}}},
		{"what touches is one", []api.Ram{{At: 8192, Size: 4096}, {At: 4096, Size: 4096}}, nil, spans{{First: 4096, Last: 12287}}},
		{"what meets is one", []api.Ram{{At: 1, Size: 10}, {At: 5, Size: 10}}, nil, spans{{First: 1, Last: 14}}},
		{"what does not touch is two", []api.Ram{{At: 1, Size: 1}, {At: 3, Size: 1}}, nil, spans{{First: 1, Last: 1}, {First: 3, Last: 3}}},
		{"no size at 0", []api.Ram{{}}, nil, nil},
		{"no size in the midst", []api.Ram{{At: 5, Size: 0}}, nil, nil},
		{"no size at the end", []api.Ram{{At: math.MaxUint64, Size: 0}, {At: top, Size: 0}}, nil, nil},
		{"up to the end", []api.Ram{{At: top - 1, Size: 1}}, nil, spans{{First: top - 1, Last: top - 1}}},
		{"beyond the end", []api.Ram{{At: top - 1, Size: 2}}, nil, spans{{First: top - 1, Last: top - 1}}},
		{"from the end on", []api.Ram{{At: top, Size: 1}, {At: top + 4096, Size: 4096}}, nil, nil},
		{"a sum that is 2^64", []api.Ram{{At: 1 << 31, Size: math.MaxUint64 - 1<<31 + 1}}, nil, spans{{First: 1 << 31, Last: top - 1}}},
		{"a sum beyond 2^64", []api.Ram{{At: 4096, Size: math.MaxUint64}}, nil, spans{{First: 4096, Last: top - 1}}},
		{"a sum beyond 2^64 from far on", []api.Ram{{At: math.MaxUint64, Size: 4096}}, nil, nil},
		{"all", []api.Ram{{At: 0, Size: math.MaxUint64}}, nil, spans{{First: 0, Last: top - 1}}},
		{"a region that is not fixed", []api.Ram{{Size: 100}}, []api.Region{{Size: 50, At: 10}}, spans{{First: 0, Last: 99}}},
		{"a fixed one", []api.Ram{{Size: 100}}, []api.Region{{Size: 50, At: 10, Fixed: true}}, spans{{First: 0, Last: 9}, {First: 60, Last: 99}}},
		{"a fixed one over two", []api.Ram{{Size: 100}, {At: 200, Size: 100}}, []api.Region{{Size: 150, At: 90, Fixed: true}}, spans{{First: 0, Last: 89}, {First: 240, Last: 299}}},
		{"a fixed one of no size", []api.Ram{{Size: 100}}, []api.Region{{At: 0, Fixed: true}, {At: 50, Fixed: true}}, spans{{First: 0, Last: 99}}},
		{"a fixed one beyond 2^64", []api.Ram{{Size: 100}}, []api.Region{{At: 60, Size: math.MaxUint64 - 30, Fixed: true}}, spans{{First: 0, Last: 59}}},
		{"a fixed one up to 2^64", []api.Ram{{Size: 100}}, []api.Region{{At: 60, Size: math.MaxUint64 - 59, Fixed: true}}, spans{{First: 0, Last: 59}}},
		{"a fixed one from the end on", []api.Ram{{Size: math.MaxUint64}}, []api.Region{{At: top, Size: 1, Fixed: true}}, spans{{First: 0, Last: top - 1}}},
		{"a fixed one at the end", []api.Ram{{Size: math.MaxUint64}}, []api.Region{{At: top - 1, Size: 9, Fixed: true}}, spans{{First: 0, Last: top - 2}}},
		{"fixed ones that meet", []api.Ram{{Size: 100}}, []api.Region{{At: 9, Size: 9, Fixed: true}, {At: 2, Size: 9, Fixed: true}}, spans{{First: 0, Last: 1}, {First: 18, Last: 99}}},
		{"all fixed", []api.Ram{{Size: 100}}, []api.Region{{Size: 100, Fixed: true}}, nil},
	} {
		got := Free(api.Policy{Rams: c.rams, Regions: c.regions}).Spans()
		if !slices.Equal(got, c.want) {
			t.Errorf("P11.1: %s: %v, want %v", c.name, got, c.want)
		}
	}
}

// TestFreeOfMuch: P11.1: a policy of many spans of RAM and regions, of which
// no two touch.
func TestFreeOfMuch(t *testing.T) {
	t.Parallel()
	const many = 1 << 17
	var p api.Policy
	for i := range uint64(many) {
		p.Rams = append(p.Rams, api.Ram{At: (many - 1 - i) << 12, Size: 2048})
		p.Regions = append(p.Regions, api.Region{At: i<<12 + 512, Size: 512, Fixed: true})
	}
	if got := Free(p).Spans(); len(got) != 2*many || got[1] != (span.Span[uint64]{First: 1024, Last: 2047}) {
		t.Errorf("P11.1: %d spans", len(got))
	}
}

// lays are policies, and what Lay answers: how many pages the image has, where
// everything lies; or why not.
type lays struct {
	name  string
	p     api.Policy
	want  []uint64
	image uint64
	pages int
	no    int
	why   api.Errno
}

func (c lays) try(t *testing.T) {
	t.Helper()
	l, n, why := Lay(c.p)
	want := api.Layout{Regions: c.want, Image: c.image, Pages: c.pages}
	if n != c.no || why != c.why || !sameLayout(l, want) {
		t.Errorf("P11.2: %s: %v, %d, %v, want %v, %d, %v", c.name, l, n, why, want, c.no, c.why)
	}
	if why != api.OK {
		return
	}
	if e := Holds(c.p, l); e != api.OK {
		t.Errorf("P11.4: %s: %v", c.name, e)
	}
}

// TestRuns: the chapter's runs.
func TestRuns(t *testing.T) {
	t.Parallel()
	refused := three(t, "region r size 4K;")
	refused.Starts = nil
	for _, c := range []lays{
		{"2, 3", three(t, "region r size 8K; region q size 12K;"), []uint64{65536, 73728}, 86016, 3, -1, api.OK},
		{"2, 3 fixed", three(t, "region r size 8K; region q size 12K at 65536;"), []uint64{77824, 65536}, 86016, 3, -1, api.OK},
		{"2, 4, 2", three(t, "region r size 8K; region q size 16K; region o size 8K;"), nil, 0, 0, -1, api.ErrSpace},
		{"2, 4, 1", three(t, "region r size 8K; region q size 16K; region o size 4K;"), []uint64{65536, 73728, 90112}, 94208, 3, -1, api.OK},
		{"11", three(t, "region r size 44K;"), nil, 0, 0, 0, api.ErrSpace},
		{"1, 11, 11", three(t, "region q size 4K; region r size 44K; region o size 44K;"), nil, 0, 0, 1, api.ErrSpace},
		{"a fixed page in the midst, 5, 4", three(t, "region f size 4K at 81920; region r size 20K; region q size 16K;"), nil, 0, 0, -1, api.ErrSpace},
		{"a fixed page in the midst, 6", three(t, "region r size 24K; region f size 4K at 81920;"), nil, 0, 0, 0, api.ErrSpace},
		{"a fixed page in the midst, 2", three(t, "region f size 4K at 81920; region r size 8K;"), []uint64{81920, 65536}, 86016, 3, -1, api.OK},
		{"a fixed page in the midst, 2, 2", three(t, "region f size 4K at 81920; region r size 8K; region q size 8K;"), []uint64{81920, 65536, 73728}, 86016, 3, -1, api.OK},
		{"big", of(t, "ram 0 size 4M; region f size 4K at 0; region b size 2M big;"), []uint64{0, 2 * mib}, 4096, 1, -1, api.OK},
		{"refused", refused, nil, 0, 0, -1, api.ErrArg},
		{"nothing", api.Policy{}, nil, 0, 0, -1, api.ErrArg},
	} {
		c.try(t)
	}
}

// TestLay: what the runs don't have.
func TestLay(t *testing.T) {
	t.Parallel()
	for _, c := range []lays{
		{"no regions", of(t, "ram 0 size 64K;"), nil, 0, 1, -1, api.OK},
		{"no RAM", of(t, ""), nil, 0, 0, -1, api.ErrSpace},
		{"no RAM, a region", of(t, "region r size 4K;"), nil, 0, 0, 0, api.ErrSpace},
		{"no room for the image", of(t, "ram 0 size 4K; region r size 4K;"), nil, 0, 0, -1, api.ErrSpace},
		{"just enough", of(t, "ram 0 size 8K; region r size 4K;"), []uint64{0}, 4096, 1, -1, api.OK},
		{"rams that touch", of(t, "ram 8K size 4K; ram 4K size 4K; region r size 8K; ram 12K size 4K;"), []uint64{4096}, 12288, 1, -1, api.OK},
		{"rams that don't touch", of(t, "ram 4K size 4K; ram 12K size 4K; region r size 8K;"), nil, 0, 0, 0, api.ErrSpace},
		{"rams in no order", of(t, "ram 1M size 64K; ram 0 size 8K; region r size 4K; region q size 12K;"), []uint64{0, mib}, 4096, 1, -1, api.OK},
		{"a hole that is too small, and one behind", of(t, "ram 0 size 64K; region f size 4K at 4K; region r size 8K; region q size 4K;"), []uint64{4096, 8192, 0}, 16384, 1, -1, api.OK},
		{"the first of several holes", of(t, "ram 0 size 64K; region f[0] size 4K at 8K; region f[1] size 4K at 20K; region r size 8K; region q size 8K;"), []uint64{8192, 20480, 0, 12288}, 24576, 1, -1, api.OK},
		{"one that is fixed behind is out of it at once", of(t, "ram 0 size 64K; region r size 8K; region f size 4K at 4K;"), []uint64{8192, 4096}, 0, 1, -1, api.OK},
		{"all fixed", of(t, "ram 0 size 12K; region r size 4K at 8K; region q size 4K at 0;"), []uint64{8192, 0}, 4096, 1, -1, api.OK},
		{"all of RAM is fixed", of(t, "ram 0 size 8K; region r size 8K at 0;"), nil, 0, 0, -1, api.ErrSpace},
		{"the last page of all", of(t, "ram 0xfffff000 size 4K;"), nil, 0xfffff000, 1, -1, api.OK},
		{"the last two pages of all", of(t, "ram 0xffffe000 size 8K; region r size 4K;"), []uint64{0xffffe000}, 0xfffff000, 1, -1, api.OK},
		{"big, the first one", of(t, "ram 0 size 4M; region b size 2M big; region r size 4K;"), []uint64{0, 2 * mib}, 2*mib + 4096, 1, -1, api.OK},
		{"big behind a page", of(t, "ram 0 size 4M; region r size 4K; region b size 2M big; region q size 4K;"), []uint64{0, 2 * mib, 4096}, 8192, 1, -1, api.OK},
		{"big over rams that touch", of(t, "ram 1M size 2M; ram 3M size 1M; region b size 2M big;"), []uint64{2 * mib}, mib, 1, -1, api.OK},
		{"no room for a big one that pages would have", of(t, "ram 1M size 2M; region b size 2M big;"), nil, 0, 0, 0, api.ErrSpace},
		{"as many pages", of(t, "ram 1M size 3M; region b size 2M;"), []uint64{mib}, 3 * mib, 1, -1, api.OK},
		{"big, fixed", of(t, "ram 0 size 4M; region r size 4K; region b size 2M at 0 big;"), []uint64{2 * mib, 0}, 2*mib + 4096, 1, -1, api.OK},
		{"big, two pages", of(t, "ram 2M size 6M; region b size 4M big;"), []uint64{2 * mib}, 6 * mib, 1, -1, api.OK},
		{"all of RAM but the image", of(t, "ram 64M size 64M; region r size 64M - 4K;"), []uint64{64 * mib}, 128*mib - 4096, 1, -1, api.OK},
		{"a device in the midst", of(t, "ram 0 size 4K; device d at 4K size 4K; ram 8K size 8K; region r size 8K;"), []uint64{8192}, 0, 1, -1, api.OK},
	} {
		c.try(t)
	}
}

// TestExamples: the chapter's, and the whole's first two.
func TestExamples(t *testing.T) {
	t.Parallel()
	one, _, _ := Lay(of(t, "ram 0 size 64K; region r size 4K; region q size 12K;"))
	other, _, _ := Lay(of(t, "ram 0 size 64K; region q size 12K; region r size 4K;"))
	if !slices.Equal(one.Regions, []uint64{0, 4096}) || !slices.Equal(other.Regions, []uint64{0, 12288}) {
		t.Errorf("P11.2: exchanged: %v, %v", one, other)
	}
	turned, _, _ := Lay(of(t, "ram 0 size 64K; region z[1] size 4K; region a size 12K;"))
	if !sameLayout(one, turned) {
		t.Errorf("P11.6: other names: %v, %v", one, turned)
	}
	if !Free(api.Policy{}).Same(span.Of[uint64]()) || !Free(of(t, "region r size 4K;")).Same(span.Of[uint64]()) {
		t.Error("P11.1: without RAM")
	}
}

// TestLargestImage: P11.2: the greatest image that there may be lies where all
// of its pages have room, and nowhere else.
func TestLargestImage(t *testing.T) {
	t.Parallel()
	// A space of n maps, each at another v >> 30, has 1 + 2n tables; 7 of 129,
	// one of 119 and one of 1 are 1023, and one page is ahead of them.
	const lines = `region r size 4K;
		each i in 0 .. 7 { subject a[i] cpu 0 { each k in 0 .. 64 { map r at k << 30; } } }
		subject b cpu 0 { each k in 0 .. 59 { map r at k << 30; } }
		subject c cpu 0 { }
		`
	const size = 1024 * api.Page
	for _, c := range []lays{
		{"just enough", of(t, lines+"ram 0 size 4K + 4M;"), []uint64{0}, 4096, 1024, -1, api.OK},
		{"one page less", of(t, lines+"ram 0 size 4M;"), nil, 0, 0, -1, api.ErrSpace},
		{"two halves", of(t, lines+"ram 4K size 2M; ram 4M size 3M;"), nil, 0, 0, -1, api.ErrSpace},
		{"behind a hole", of(t, lines+"ram 0 size 4M; ram 16M + 4K size 4M;"), []uint64{0}, 16*mib + 4096, 1024, -1, api.OK},
	} {
		c.try(t)
		if n := check.Pages(c.p); n*api.Page != size {
			t.Errorf("%s: %d pages", c.name, n)
		}
	}
}

// TestHolds: each refusal at its edges, and which comes ahead of which.
func TestHolds(t *testing.T) {
	t.Parallel()
	type at = []uint64
	const top = math.MaxUint64 - 4095
	// RAM from 64K to 128K, of two spans that touch, and from 2M to 6M. The
	// image has one page.
	p := of(t, `ram 64K size 32K; ram 96K size 32K; ram 2M size 4M;
		region a size 8K; region f size 8K at 72K; region b size 2M big; region g size 2M at 4M big;`)
	good := at{64 * kib, 72 * kib, 2 * mib, 4 * mib}
	refused := copied(p)
	refused.Starts = nil
	for _, c := range []struct {
		name  string
		p     api.Policy
		at    at
		image uint64
		pages int
		want  api.Errno
	}{
		{"good", p, good, 80 * kib, 1, api.OK},
		{"elsewhere", p, at{88 * kib, 72 * kib, 2 * mib, 4 * mib}, 64 * kib, 1, api.OK},
		{"over two spans that touch", p, at{92 * kib, 72 * kib, 2 * mib, 4 * mib}, 124 * kib, 1, api.OK},
		{"up to a span's end", p, at{120 * kib, 72 * kib, 2 * mib, 4 * mib}, 80 * kib, 1, api.OK},

		{"a policy that is refused", refused, good, 80 * kib, 1, api.ErrArg},
		{"nothing at all", api.Policy{}, nil, 0, 0, api.ErrArg},
		{"no regions", p, nil, 80 * kib, 1, api.ErrArg},
		{"one too few", p, good[:3], 80 * kib, 1, api.ErrArg},
		{"one too many", p, at{64 * kib, 72 * kib, 2 * mib, 4 * mib, 1}, 80 * kib, 1, api.ErrArg},
		{"a page too few", p, good, 80 * kib, 0, api.ErrArg},
		{"a page too many", p, good, 80 * kib, 2, api.ErrArg},
		{"pages below none", p, good, 80 * kib, -1, api.ErrArg},
		{"ahead of all others", p, at{1}, 1, 1, api.ErrArg},
		{"pages ahead of all others", p, at{1, 1, 1, 1}, 1, 0, api.ErrArg},

		{"moved by a byte", p, at{64*kib + 1, 72 * kib, 2 * mib, 4 * mib}, 80 * kib, 1, api.ErrAlign},
		{"moved by half a page", p, at{82 * kib, 72 * kib, 2 * mib, 4 * mib}, 64 * kib, 1, api.ErrAlign},
		{"a fixed one moved by a byte", p, at{64 * kib, 72*kib + 1, 2 * mib, 4 * mib}, 80 * kib, 1, api.ErrAlign},
		{"a big one moved by a page", p, at{64 * kib, 72 * kib, 2*mib + 4096, 4 * mib}, 80 * kib, 1, api.ErrAlign},
		{"a big fixed one moved by a page", p, at{64 * kib, 72 * kib, 2 * mib, 4*mib + 4096}, 80 * kib, 1, api.ErrAlign},
		{"the image moved by a byte", p, good, 80*kib + 1, 1, api.ErrAlign},
		{"the image at the last byte of all", p, good, math.MaxUint64, 1, api.ErrAlign},
		{"align ahead of outside", p, at{1, 72 * kib, 2 * mib, 4 * mib}, 80 * kib, 1, api.ErrAlign},
		{"align ahead of overlap", p, at{64 * kib, 72 * kib, 2 * mib, 4 * mib}, 64*kib + 1, 1, api.ErrAlign},
		{"the first one's ahead of the image's", p, at{128 * kib, 72 * kib, 2 * mib, 4 * mib}, 1, 1, api.ErrOutside},
		{"the second one's ahead of the third's", p, at{64 * kib, 64 * kib, 1, 4 * mib}, 80 * kib, 1, api.ErrOutside},
		{"the third one's ahead of the image's", p, at{64 * kib, 72 * kib, 2*mib + 1, 4 * mib}, 64 * kib, 1, api.ErrAlign},

		{"fixed elsewhere", p, at{64 * kib, 80 * kib, 2 * mib, 4 * mib}, 124 * kib, 1, api.ErrOutside},
		{"big and fixed elsewhere", p, at{64 * kib, 72 * kib, 4 * mib, 2 * mib}, 124 * kib, 1, api.ErrOutside},
		{"fixed elsewhere, ahead of overlap", p, at{64 * kib, 64 * kib, 2 * mib, 4 * mib}, 124 * kib, 1, api.ErrOutside},
		{"a page ahead of RAM", p, at{60 * kib, 72 * kib, 2 * mib, 4 * mib}, 80 * kib, 1, api.ErrOutside},
		{"a page behind RAM", p, at{124 * kib, 72 * kib, 2 * mib, 4 * mib}, 80 * kib, 1, api.ErrOutside},
		{"all behind RAM", p, at{128 * kib, 72 * kib, 2 * mib, 4 * mib}, 80 * kib, 1, api.ErrOutside},
		{"at MaxPhys", p, at{api.MaxPhys, 72 * kib, 2 * mib, 4 * mib}, 80 * kib, 1, api.ErrOutside},
		{"at MaxPhys, and lower the same", p, at{api.MaxPhys + 64*kib, 72 * kib, 2 * mib, 4 * mib}, 80 * kib, 1, api.ErrOutside},
		{"up to 2^64", p, at{top - 4096, 72 * kib, 2 * mib, 4 * mib}, 80 * kib, 1, api.ErrOutside},
		{"beyond 2^64", p, at{top, 72 * kib, 2 * mib, 4 * mib}, 80 * kib, 1, api.ErrOutside},
		{"a big one beyond RAM", p, at{64 * kib, 72 * kib, 6 * mib, 4 * mib}, 80 * kib, 1, api.ErrOutside},
		{"a big one ahead of RAM", p, at{64 * kib, 72 * kib, 0, 4 * mib}, 80 * kib, 1, api.ErrOutside},
		{"the image ahead of RAM", p, good, 60 * kib, 1, api.ErrOutside},
		{"the image behind RAM", p, good, 6 * mib, 1, api.ErrOutside},
		{"the image up to 2^64", p, good, top, 1, api.ErrOutside},

		{"a fixed one behind meets it", p, at{68 * kib, 72 * kib, 2 * mib, 4 * mib}, 80 * kib, 1, api.ErrOverlap},
		{"a fixed one behind meets its first page", p, at{76 * kib, 72 * kib, 2 * mib, 4 * mib}, 84 * kib, 1, api.ErrOverlap},
		{"one in the other", p, at{2 * mib, 72 * kib, 2 * mib, 4 * mib}, 80 * kib, 1, api.ErrOverlap},
		{"two big ones at one place", p, at{64 * kib, 72 * kib, 4 * mib, 4 * mib}, 80 * kib, 1, api.ErrOverlap},
		{"the image in the first", p, good, 64 * kib, 1, api.ErrOverlap},
		{"the image in the first's last page", p, good, 68 * kib, 1, api.ErrOverlap},
		{"the image in a fixed one", p, good, 76 * kib, 1, api.ErrOverlap},
		{"the image in a big one", p, good, 4*mib - 4096, 1, api.ErrOverlap},
		{"an overlap of those ahead, and the image outside", p, at{68 * kib, 72 * kib, 2 * mib, 4 * mib}, 0, 1, api.ErrOverlap},
		{"an overlap ahead of one that is outside", p, at{68 * kib, 72 * kib, 6 * mib, 4 * mib}, 0, 1, api.ErrOverlap},
		// The one ahead does not hear of it: the later one tells.
		{"who comes later tells", p, at{72 * kib, 80 * kib, 2 * mib, 4 * mib}, 84 * kib, 1, api.ErrOutside},
	} {
		l := api.Layout{Regions: c.at, Image: c.image, Pages: c.pages}
		if why := Holds(c.p, l); why != c.want {
			t.Errorf("P11.3: %s: %v, want %v", c.name, why, c.want)
		}
	}
}

// TestHoldsAnImage: P11.3: all of an image's pages are looked at.
func TestHoldsAnImage(t *testing.T) {
	t.Parallel()
	p := three(t, "region r size 8K; region q size 12K;")
	for _, c := range []struct {
		image uint64
		want  api.Errno
	}{
		{86016, api.OK}, {86017, api.ErrAlign}, {94208, api.OK}, {98304, api.ErrOutside}, {102400, api.ErrOutside},
		{106496, api.ErrOutside}, {81920, api.ErrOverlap}, {65536, api.ErrOverlap}, {61440, api.ErrOutside},
		{math.MaxUint64 - 4095, api.ErrOutside}, {math.MaxUint64 - 3*4096 + 1, api.ErrOutside},
	} {
		if why := Holds(p, api.Layout{Regions: []uint64{65536, 73728}, Image: c.image, Pages: 3}); why != c.want {
			t.Errorf("P11.3: the image at %d: %v, want %v", c.image, why, c.want)
		}
	}
}

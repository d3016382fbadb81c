package place

import (
	"fmt"
	"math"
	"math/rand"
	"reflect"
	"slices"
	"testing"

	"bulkhead/api"
	"bulkhead/check"
)

func pick[T any](r *rand.Rand, list ...T) T { return list[r.Intn(len(list))] }

// maker makes policies at random: of so many pages that they nearly fit, and
// nearly don't.
type maker struct{ *rand.Rand }

// rams are spans of RAM in no order, of which some touch.
func (m maker) rams(from, unit uint64, most int) []api.Ram {
	var out []api.Ram
	at := from
	for range 1 + m.Intn(4) {
		at += unit * pick(m.Rand, 0, 0, 1, uint64(m.Intn(4)))
		size := unit * uint64(1+m.Intn(most))
		out = append(out, api.Ram{At: at, Size: size})
		at += size
	}
	m.Shuffle(len(out), reflect.Swapper(out))
	return out
}

// regions are regions of a few pages, big ones or not, of which some are
// fixed, mostly in RAM.
func (m maker) regions(p api.Policy, pages int, big bool) []api.Region {
	var out []api.Region
	for i := range m.Intn(6) {
		r := api.Region{Name: fmt.Sprint("r.", i), Size: 4096 * uint64(1+m.Intn(pages))}
		if big && m.Intn(2) == 0 {
			r.Big, r.Size = true, uint64(1+m.Intn(2))<<21
		}
		if m.Intn(3) == 0 {
			ram := pick(m.Rand, p.Rams...)
			page := ram.At/4096 + uint64(m.Intn(int(ram.Size/4096)))
			unit := unitOf(r)
			r.Fixed, r.At = true, page*4096/unit*unit
		}
		out = append(out, r)
	}
	return out
}

// policy is one whose image has 1 to 5 pages.
func (m maker) policy() api.Policy {
	p := api.Policy{Name: "s", Plans: []api.Plan{{Name: "p", Major: 1}}, Starts: []api.Pick{{Name: "p"}}}
	for i := range m.Intn(5) {
		p.Subjects = append(p.Subjects, api.Subject{Name: fmt.Sprint("a.", i)})
	}
	if m.Intn(4) == 0 {
		from := pick[uint64](m.Rand, 0, 4096, 1<<20, 1<<21, 1<<31-4096)
		p.Rams = m.rams(from, 1<<20, 4)
		p.Regions = m.regions(p, 600, true)
		return p
	}
	p.Rams = m.rams(pick[uint64](m.Rand, 0, 4096, 65536, 1<<32-1<<17), 4096, 8)
	p.Regions = m.regions(p, 5, false)
	return p
}

// layout is a place for everything, moved a little.
func (m maker) layout(p api.Policy) api.Layout {
	l, _, why := Lay(p)
	if why != api.OK {
		l = api.Layout{Pages: check.Pages(p)}
		for _, r := range p.Regions {
			l.Regions = append(l.Regions, r.At)
		}
	}
	for range m.Intn(4) {
		at := &l.Image
		if len(l.Regions) > 0 && m.Intn(4) > 0 {
			at = &l.Regions[m.Intn(len(l.Regions))]
		}
		step := pick[uint64](m.Rand, 4096, 4096, 4096, 1, 1<<20, 1<<21, 1<<32)
		other := pick(m.Rand, append(l.Regions, l.Image)...)
		*at = pick(m.Rand, *at+step, *at-step, *at+2*step, other, other+4096, other-4096, -step, 0, math.MaxUint64)
	}
	switch m.Intn(24) {
	case 0:
		l.Pages += pick(m.Rand, 1, -1)
	case 1:
		l.Regions = append(l.Regions, 0)
	case 2:
		l.Regions = l.Regions[:len(l.Regions)/2]
	}
	return l
}

// otherwise changes all of a policy that a layout does not hang on.
func (m maker) otherwise(p api.Policy) api.Policy {
	p = copied(p)
	p.Name, p.Pos = "other", m.Intn(100)
	p.Plans = []api.Plan{{Name: "q", Major: 7, Pos: 5}}
	p.Starts = []api.Pick{{Name: "q"}}
	p.Devices = []api.Device{{Name: "dev", At: 0xe0000000, Size: 4096}}
	p.Subjects = slices.Clone(p.Subjects)
	for i := range p.Subjects {
		p.Subjects[i] = api.Subject{Name: fmt.Sprint("other.", i), CPU: uint64(m.Intn(4)), Stopped: true, Pos: m.Intn(9)}
	}
	for i := range p.Rams {
		p.Rams[i].Pos = m.Intn(100)
	}
	for i := range p.Regions {
		r := &p.Regions[i]
		r.Name, r.Pos, r.Wx = fmt.Sprint("x.", len(p.Regions)-i), m.Intn(100), m.Intn(2) == 0
		if m.Intn(2) == 0 {
			r.Texted, r.Text = true, "some text"
		} else if r.Size <= api.MaxFill {
			r.Fill = uint64(m.Intn(256))
		}
	}
	return p
}

// counts are how often something was told.
type counts struct {
	lay, hold map[api.Errno]int
	image     int
}

// TestAtRandom: P11.1 to P11.6: policies that nearly fit, against the
// chapter's words.
func TestAtRandom(t *testing.T) {
	t.Parallel()
	told := counts{lay: map[api.Errno]int{}, hold: map[api.Errno]int{}}
	m := maker{rand.New(rand.NewSource(11))}
	for range 6000 {
		p := m.policy()
		before := copied(p)
		m.holdLay(t, p, &told)
		m.holdHolds(t, p, &told)
		if got, want := Free(p).Spans(), freeSpans(p); !slices.Equal(got, want) {
			t.Fatalf("P11.1: %v, want %v\n%+v", got, want, p)
		}
		if !reflect.DeepEqual(p, before) {
			t.Fatalf("R2: the policy was changed: %+v, it was %+v", p, before)
		}
	}
	for _, why := range []api.Errno{api.OK, api.ErrArg, api.ErrSpace} {
		if told.lay[why] < 300 {
			t.Errorf("Lay told %v %d times: the policies are too tame", why, told.lay[why])
		}
	}
	for _, why := range []api.Errno{api.OK, api.ErrArg, api.ErrAlign, api.ErrOutside, api.ErrOverlap} {
		if told.hold[why] < 200 {
			t.Errorf("Holds told %v %d times: the layouts are too tame", why, told.hold[why])
		}
	}
	if told.image < 100 || told.lay[api.ErrSpace]-told.image < 100 {
		t.Errorf("there was no room for the image %d times", told.image)
	}
}

// holdLay holds Lay of a policy against the model.
func (m maker) holdLay(t *testing.T, p api.Policy, told *counts) {
	t.Helper()
	l, n, why := Lay(p)
	want, no, e := laidOut(p)
	if !sameLayout(l, want) || n != no || why != e {
		t.Fatalf("P11.2: %v, %d, %v, want %v, %d, %v\n%+v", l, n, why, want, no, e, p)
	}
	told.lay[why]++
	switch why {
	case api.OK:
		if e := Holds(p, l); e != api.OK {
			t.Fatalf("P11.4: %v of %v\n%+v", e, l, p)
		}
	case api.ErrSpace:
		if n == -1 {
			told.image++
		}
		m.holdSpace(t, p)
	}
	q := m.otherwise(p)
	if _, e := check.Check(q); (e == api.OK) != (why != api.ErrArg) || check.Pages(q) != check.Pages(p) {
		t.Fatalf("another policy than is meant: %+v", q)
	}
	if k, i, e := Lay(q); !sameLayout(k, l) || i != n || e != why {
		t.Fatalf("P11.6: %v, %d, %v, and otherwise %v, %d, %v\n%+v\n%+v", l, n, why, k, i, e, p, q)
	}
}

// holdSpace: P11.5: what found no room is more than the largest span, if
// nothing is big that is not fixed.
func (m maker) holdSpace(t *testing.T, p api.Policy) {
	t.Helper()
	sum := uint64(check.Pages(p)) * 4096
	for _, r := range p.Regions {
		if r.Fixed {
			continue
		}
		if r.Big {
			return
		}
		sum += r.Size
	}
	if x, ok := Free(p).Largest(); ok && sum <= x.Last-x.First+1 {
		t.Fatalf("P11.5: %d bytes find no room, where %v is free\n%+v", sum, x, p)
	}
}

// holdHolds holds Holds of a policy and a layout against the model.
func (m maker) holdHolds(t *testing.T, p api.Policy, told *counts) {
	t.Helper()
	l := m.layout(p)
	before := api.Layout{Regions: slices.Clone(l.Regions), Image: l.Image, Pages: l.Pages}
	why, want := Holds(p, l), held(p, l)
	if why != want {
		t.Fatalf("P11.3: %v, want %v: %v\n%+v", why, want, l, p)
	}
	told.hold[why]++
	if !sameLayout(l, before) {
		t.Fatalf("R2: the layout was changed: %v, it was %v", l, before)
	}
}

// TestFreeAtRandom: P11.1: policies that check would refuse, too.
func TestFreeAtRandom(t *testing.T) {
	t.Parallel()
	r := rand.New(rand.NewSource(1))
	number := func() uint64 {
		base := pick[uint64](r, 0, 0, 10, 4096, 1<<31, 1<<32, 1<<32, 1<<63, math.MaxUint64)
		return base + pick(r, 0, 1, 2, uint64(r.Intn(20)), -uint64(r.Intn(20)), 4096)
	}
	for range 20000 {
		var p api.Policy
		for range r.Intn(4) {
			p.Rams = append(p.Rams, api.Ram{At: number(), Size: number()})
		}
		for range r.Intn(4) {
			p.Regions = append(p.Regions, api.Region{At: number(), Size: number(), Fixed: r.Intn(3) > 0, Big: r.Intn(2) == 0})
		}
		if got, want := Free(p).Spans(), freeSpans(p); !slices.Equal(got, want) {
			t.Fatalf("P11.1: %v, want %v\n%+v", got, want, p)
		}
	}
}

// TestEmptyLists: R4: nil lists and empty ones mean the same; R2: an answer is
// new memory.
func TestEmptyLists(t *testing.T) {
	t.Parallel()
	p := of(t, "ram 0 size 64K;")
	p.Regions, p.Subjects, p.Devices = nil, nil, nil
	q := copied(p)
	q.Regions, q.Subjects, q.Devices = []api.Region{}, []api.Subject{}, []api.Device{}
	one, _, _ := Lay(p)
	two, n, why := Lay(q)
	if !sameLayout(one, two) || n != -1 || why != api.OK {
		t.Errorf("R4: %v, %v, %d, %v", one, two, n, why)
	}
	for _, x := range []api.Policy{p, q} {
		for _, regions := range [][]uint64{nil, {}} {
			if why := Holds(x, api.Layout{Regions: regions, Pages: 1}); why != api.OK {
				t.Errorf("R4: %v", why)
			}
		}
	}
	r := of(t, "ram 0 size 64K; region r size 4K; region q size 4K;")
	first, _, _ := Lay(r)
	first.Regions[0] = 1
	if second, _, _ := Lay(r); second.Regions[0] != 0 {
		t.Error("R2: two answers share memory")
	}
	if l, _, why := Lay(of(t, "ram 0 size 4K; region r size 4K;")); why != api.ErrSpace || !isNothing(l) {
		t.Errorf("R3: %v beside %v", l, why)
	}
}

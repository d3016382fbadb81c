package forge

import (
	"math"
	"reflect"
	"slices"
	"strings"
	"testing"

	"bulkhead/api"
	"bulkhead/bundle"
	"bulkhead/check"
	"bulkhead/place"
	"bulkhead/render"
	"bulkhead/syntax"
	"bulkhead/unfold"
)

// holdEmit holds Emit of a policy against what must be told.
func holdEmit(t *testing.T, what string, p api.Policy, at int, want api.Errno) {
	t.Helper()
	b, got, why := Emit(p)
	if got != at || why != want {
		t.Errorf("P14.4: %s: %v at %d, want %v at %d", what, why, got, want, at)
	}
	if why != api.OK && told(b) != told(Built{}) {
		t.Errorf("R3: %s: beside %v %+v", what, why, b)
	}
}

// TestEmitRefuses: P14.4: what check refuses, then no room; with the Pos that
// are handed in, whatever they are.
func TestEmitRefuses(t *testing.T) {
	t.Parallel()
	full := flat(t, of("ram 0 size 8K; region r size 4K; region g size 8K;"))
	full.Regions[1].Pos = -77
	holdEmit(t, "a region without room", full, -77, api.ErrSpace)
	full.Regions[1].Pos = math.MaxInt
	holdEmit(t, "a region without room", full, math.MaxInt, api.ErrSpace)
	full.Subjects = []api.Subject{{Name: "a", CPU: 4, Pos: 1 << 40}}
	holdEmit(t, "and check refuses it", full, 1<<40, api.ErrCPU)
	none := flat(t, of("ram 0 size 4K; region r size 4K;"))
	none.Pos = -3
	holdEmit(t, "an image without room", none, -3, api.ErrSpace)
	holdEmit(t, "the zero policy", api.Policy{Pos: 5}, 5, api.ErrStart)
	holdEmit(t, "nothing wrong", flat(t, of("ram 0 size 8K; region r size 4K;")), 0, api.OK)
	large := flat(t, of("ram 0 size 64K;"))
	large.Pos = 9
	for n := range 5 {
		large.Regions = append(large.Regions, api.Region{Name: "r." + string(rune('0'+n)), Size: 1 << 20, Texted: true, Text: strings.Repeat("x", 1<<20)})
	}
	holdEmit(t, "1025 pages and more", large, 9, api.ErrLarge)
}

// TestEmit: P14.4: the policy, where it lies, the image's bytes.
func TestEmit(t *testing.T) {
	t.Parallel()
	for _, src := range []string{whole, family(1), family(7), family(64), of("ram 0 size 64K;")} {
		p := flat(t, src)
		b, at, why := Emit(p)
		l, _, _ := place.Lay(p)
		i, e := Image(p, l)
		raw, _ := bundle.Encode(i)
		if at != 0 || why != api.OK || e != api.OK || !samePolicy(b.Policy, p) || told(b.Layout) != told(l) || string(b.Image) != string(raw) {
			t.Errorf("P14.4: %.30q: %v at %d", src, why, at)
		}
		if len(b.Image) != check.Pages(p)*4096 {
			t.Errorf("P14.4: %.30q: %d bytes, where check tells %d pages", src, len(b.Image), check.Pages(p))
		}
		if c := compiled(t, src); !sameBuilt(c, b) {
			t.Errorf("P14.2: %.30q: not what Emit answers", src)
		}
	}
}

// TestPositions: P14.4: policies that are alike but for Pos have one image.
func TestPositions(t *testing.T) {
	t.Parallel()
	p := flat(t, whole)
	want, _, _ := Emit(p)
	n := 0
	for _, place := range []func() int{
		func() int { return 0 },
		func() int { return -1 },
		func() int { n--; return n },
		func() int { n += 7919; return n % 100 },
		func() int { return math.MaxInt },
	} {
		setPlaces(&p, place)
		b, at, why := Emit(p)
		if at != 0 || why != api.OK || string(b.Image) != string(want.Image) || told(b.Layout) != told(want.Layout) {
			t.Errorf("P14.4: other places: %v at %d", why, at)
		}
		if told(b.Policy) != told(p) {
			t.Errorf("P14.4: another policy than was handed in")
		}
	}
}

// TestLargest: P14.4: an image of just as many pages as one may have.
func TestLargest(t *testing.T) {
	t.Parallel()
	p := flat(t, of("ram 0 size 64M;"))
	text := strings.Repeat("y", 1<<20)
	for n := range 3 {
		p.Regions = append(p.Regions, api.Region{Name: "r." + string(rune('0'+n)), Size: 1 << 20, Texted: true, Text: text})
	}
	for check.Pages(p) != 1023 {
		more := min(1023-check.Pages(p), 256) * 4096
		p.Regions = append(p.Regions, api.Region{Name: "q." + string(rune('0'+len(p.Regions))), Size: 1 << 20, Texted: true, Text: text[:more-1000]})
	}
	p.Subjects = append(p.Subjects, api.Subject{Name: "a"})
	b, at, why := Emit(p)
	if why != api.OK || at != 0 || len(b.Image) != 1024*4096 {
		t.Errorf("P14.4: %v at %d, %d pages", why, at, len(b.Image)/4096)
	}
	i, _, why := bundle.Decode(b.Image)
	if why != api.OK || !slices.EqualFunc(i.Regions, p.Regions, func(g api.Ground, r api.Region) bool { return g.Text == r.Text }) {
		t.Errorf("P14.5: the texts: %v", why)
	}
	p.Subjects = append(p.Subjects, api.Subject{Name: "b"})
	holdEmit(t, "a page more", p, p.Pos, api.ErrLarge)
}

// TestSpellings: W8: a text, its printed form and its unfolded form have one
// image.
func TestSpellings(t *testing.T) {
	t.Parallel()
	for _, src := range []string{whole, family(1), family(5), family(64), of("ram 0 size 64K;")} {
		b := compiled(t, src)
		tree, _, _ := syntax.Parse([]byte(src))
		printed, _ := render.Print(tree)
		written, _ := unfold.Write(b.Policy)
		for _, other := range [][]byte{printed, written} {
			if string(other) == src {
				continue
			}
			if c := compiled(t, string(other)); string(c.Image) != string(b.Image) {
				t.Errorf("W8: %.30q: another image of\n%s", src, other)
			}
		}
	}
}

// room is the memory of a list, its spare room too.
type room struct{ first, end uintptr }

// rooms are those of all lists of a thing.
func rooms(v reflect.Value) []room {
	var out []room
	switch v.Kind() {
	case reflect.Struct:
		for i := range v.NumField() {
			out = append(out, rooms(v.Field(i))...)
		}
	case reflect.Slice:
		if v.Cap() > 0 {
			out = append(out, room{v.Pointer(), v.Pointer() + uintptr(v.Cap())*v.Type().Elem().Size()})
		}
		for i := range v.Len() {
			out = append(out, rooms(v.Index(i))...)
		}
	}
	return out
}

// holdRooms tells whether lists have memory of their own, all of them.
func holdRooms(t *testing.T, what string, all ...any) {
	t.Helper()
	var list []room
	for _, x := range all {
		list = append(list, rooms(reflect.ValueOf(x))...)
	}
	slices.SortFunc(list, func(a, b room) int { return int(a.first) - int(b.first) })
	for i := 1; i < len(list); i++ {
		if list[i].first < list[i-1].end {
			t.Errorf("R2: %s: two lists share memory", what)
			return
		}
	}
}

// spared is a copy whose lists have spare room, and what that room holds.
func spared(p api.Policy) api.Policy {
	v := reflect.ValueOf(&p).Elem()
	var grow func(v reflect.Value)
	grow = func(v reflect.Value) {
		switch v.Kind() {
		case reflect.Struct:
			for i := range v.NumField() {
				grow(v.Field(i))
			}
		case reflect.Slice:
			list := reflect.MakeSlice(v.Type(), v.Len()+3, v.Len()+3)
			for i := range list.Len() {
				if v.Len() > 0 {
					list.Index(i).Set(v.Index(i % v.Len()))
				}
				grow(list.Index(i))
			}
			v.Set(list.Slice(0, v.Len()))
		}
	}
	grow(v)
	return p
}

// filled tells all of a policy with the spare room of its lists.
func filled(p api.Policy) string {
	v := reflect.ValueOf(&p).Elem()
	var stretch func(v reflect.Value) reflect.Value
	stretch = func(v reflect.Value) reflect.Value {
		out := reflect.New(v.Type()).Elem()
		out.Set(v)
		switch v.Kind() {
		case reflect.Struct:
			for i := range v.NumField() {
				out.Field(i).Set(stretch(v.Field(i)))
			}
		case reflect.Slice:
			out.Set(reflect.MakeSlice(v.Type(), v.Cap(), v.Cap()))
			for i := range v.Cap() {
				out.Index(i).Set(stretch(v.Slice(0, v.Cap()).Index(i)))
			}
		}
		return out
	}
	return told(stretch(v).Interface())
}

// TestMemory: R2: what is handed in stays as it is, spare room too; answers
// are new memory.
func TestMemory(t *testing.T) {
	t.Parallel()
	p := spared(flat(t, whole))
	before := filled(p)
	b, _, why := Emit(p)
	l := b.Layout
	l.Regions = append(l.Regions, 5, 6)[:len(l.Regions)]
	i, e := Image(p, l)
	bus := Bus(p)
	if why != api.OK || e != api.OK {
		t.Fatal(why, e)
	}
	if filled(p) != before {
		t.Error("R2: the policy was changed")
	}
	if more := l.Regions[:len(l.Regions)+2]; more[len(l.Regions)] != 5 || more[len(l.Regions)+1] != 6 {
		t.Error("R2: the layout was changed")
	}
	holdRooms(t, "Emit", p, b)
	holdRooms(t, "Image", p, l, i)
	holdRooms(t, "Bus", p, bus)
	src := append([]byte(whole), "tail"...)
	text := src[:len(whole)]
	c, err := Compile(text)
	q, other := Read(text)
	if err != nil || other != nil || string(src) != whole+"tail" {
		t.Errorf("R2: the text was changed: %v, %v", err, other)
	}
	holdRooms(t, "Compile", src, c)
	holdRooms(t, "Read", src, q)
	was := told(c.Policy)
	clear(src)
	if told(c.Policy) != was || told(q) != was {
		t.Error("R2: the text was kept")
	}
}

// TestEmptyLists: R4: nil and empty lists mean the same.
func TestEmptyLists(t *testing.T) {
	t.Parallel()
	p := flat(t, of("ram 0 size 64K; device d at 1M size 4K; subject a cpu 0 { }"))
	p.Devices[0].Maps, p.Subjects[0].Maps, p.Subjects[0].Rules = nil, nil, nil
	q := spared(p)
	a, _, why := Emit(p)
	b, _, e := Emit(q)
	if why != api.OK || e != api.OK || string(a.Image) != string(b.Image) {
		t.Errorf("R4: %v, %v", why, e)
	}
	i, _, _ := bundle.Decode(b.Image)
	if i.Devices[0].Root != -1 {
		t.Errorf("P14.5: a device with an empty list of maps: %+v", i.Devices)
	}
}

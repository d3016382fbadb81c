package boot

import (
	"bytes"
	"fmt"
	"math/rand"
	"reflect"
	"slices"
	"strings"
	"testing"

	"bulkhead/api"
	"bulkhead/bus"
	"bulkhead/forge"
)

// used is a machine that has been used: junk in its bytes, counts in its meter.
func used(t testing.TB, b api.Bus, seed int64) *bus.Machine {
	t.Helper()
	m := machine(t, b)
	r := rand.New(rand.NewSource(seed))
	for _, list := range [][]api.Range{b.Rams, b.Devices} {
		for _, x := range list {
			junk := make([]byte, x.Size)
			r.Read(junk)
			m.Write(x.At, junk)
			m.Store(x.At, 1, 5)
		}
	}
	m.Load(1<<40, 1)
	m.Load(b.Rams[0].At, 8)
	return m
}

// memory are all bytes of a machine, span by span and window by window.
func memory(m *bus.Machine) [][]byte {
	var out [][]byte
	b := m.Bus()
	for _, list := range [][]api.Range{b.Rams, b.Devices} {
		for _, x := range list {
			row, _ := m.Read(x.At, int(x.Size))
			out = append(out, row)
		}
	}
	return out
}

func meter(m *bus.Machine) [3]int { return [3]int{m.Loads(), m.Stores(), m.Strays()} }

// lay puts bytes into a machine's memory, as it is read by memory.
func lay(rows [][]byte, b api.Bus, at uint64, what []byte) {
	for n, x := range append(slices.Clone(b.Rams), b.Devices...) {
		for k, v := range what {
			if p := at + uint64(k); p >= x.At && p-x.At < x.Size {
				rows[n][p-x.At] = v
			}
		}
	}
}

// holdLoad holds Load of bytes that are taken: each byte of the machine.
func holdLoad(t *testing.T, what string, m *bus.Machine, raw []byte) {
	t.Helper()
	b, want, counts := m.Bus(), memory(m), meter(m)
	i, err := Load(m, raw)
	if err != nil || !sameImage(i, read(t, raw)) {
		t.Fatalf("P15.4: %s: %v", what, err)
	}
	lay(want, b, i.Base, raw)
	for _, g := range i.Regions {
		first := append([]byte(g.Text), bytes.Repeat([]byte{g.Fill}, int(g.Size)-len(g.Text))...)
		lay(want, b, g.At, first)
	}
	for n, row := range memory(m) {
		if !bytes.Equal(row, want[n]) {
			t.Errorf("P15.4: %s: other bytes in range %d", what, n)
		}
	}
	if meter(m) != counts {
		t.Errorf("P15.4: %s: the meter tells %v, and told %v", what, meter(m), counts)
	}
}

// TestLoad: P15.4: the image, the first contents, and nothing else, whatever
// the machine held.
func TestLoad(t *testing.T) {
	t.Parallel()
	large := turn(func(i *api.Image) {
		i.Regions = []api.Ground{
			{At: 0x400000, Size: 4 << 20, Text: strings.Repeat("long", 1<<10) + "x"}, {At: 0x300000, Size: 1 << 20, Fill: 255},
			{At: 0x220000, Size: 4096, Text: strings.Repeat("y", 4096)}, {At: 0x221000, Size: 8192, Text: strings.Repeat("z", 4097)},
		}
	})
	for n, i := range []api.Image{small(), large, turn(func(i *api.Image) { i.Regions = nil })} {
		raw := laid(t, i)
		holdLoad(t, fmt.Sprint("image ", n), used(t, smallBus(), 1), raw)
		m := machine(t, smallBus())
		holdLoad(t, fmt.Sprint("a new machine, image ", n), m, raw)
		holdLoad(t, fmt.Sprint("a second time, image ", n), m, raw)
	}
	bare := func(i *api.Image) { i.Regions, i.Tables[1][1], i.Tables[2] = nil, 0, api.Table{} }
	holdLoad(t, "over two spans", used(t, smallBus(), 2), laid(t, moved(0x5fb000, bare)))
	b := compiled(t, whole)
	holdLoad(t, "the whole image", used(t, forge.Bus(b.Policy), 3), b.Image)
}

// TestLoadRefuses: P15.4: what is refused leaves the machine as it was.
func TestLoadRefuses(t *testing.T) {
	t.Parallel()
	raw := laid(t, small())
	i, err := Load(nil, raw)
	holdError(t, "P15.4: no machine", err, Refusal{0, 0, api.ErrArg})
	j, err := Load(nil, nil)
	holdError(t, "P15.4: no machine and no bytes", err, Refusal{0, 0, api.ErrArg})
	if !sameImage(i, api.Image{}) || !sameImage(j, api.Image{}) {
		t.Error("P15.3: an image beside ErrArg")
	}
	m := used(t, smallBus(), 4)
	before, counts := memory(m), meter(m)
	for what, c := range map[string]struct {
		raw  []byte
		want Refusal
	}{
		"nothing":     {nil, Refusal{0, 0, api.ErrShort}},
		"a byte less": {raw[:len(raw)-1], Refusal{0, len(raw) - 1, api.ErrShort}},
		"bus":         {laid(t, turn(func(i *api.Image) { i.Bus.Devices = i.Bus.Devices[:2]; i.Devices = i.Devices[:2] })), Refusal{1, 0, api.ErrBus}},
		"base":        {laid(t, turn(func(i *api.Image) { i.Base = 0x800000 })), Refusal{0, 0, api.ErrBase}},
		"the last":    {laid(t, turn(entry(8, 511, smallBase|1))), Refusal{8, 8, api.ErrLeaf}},
	} {
		i, err := Load(m, c.raw)
		holdError(t, "P15.4: "+what, err, c.want)
		if !sameImage(i, api.Image{}) {
			t.Errorf("P15.3: %s: an image beside the refusal", what)
		}
	}
	if !slices.EqualFunc(before, memory(m), bytes.Equal) || meter(m) != counts {
		t.Error("P15.4: a refused image has changed the machine")
	}
}

// TestFirst: P15.5: of pages of regions, and of none.
func TestFirst(t *testing.T) {
	t.Parallel()
	zeros := strings.Repeat("\x00", 4096)
	b := compiled(t, string(forge.Family(2)))
	i := read(t, b.Image)
	region := func(name string) uint64 {
		n := slices.IndexFunc(b.Policy.Regions, func(r api.Region) bool { return r.Name == name })
		return b.Layout.Regions[n]
	}
	long := api.Image{Regions: []api.Ground{{At: 8192, Size: 12288, Text: strings.Repeat("a", 4096) + "bc"}}}
	for _, c := range []struct {
		what string
		i    api.Image
		page uint64
		want string
		ok   bool
	}{
		{"code.0", i, region("code.0"), "s" + zeros[1:], true},
		{"data.1", i, region("data.1"), strings.Repeat("\x01", 4096), true},
		{"data.1's second page", i, region("data.1") + 4096, strings.Repeat("\x01", 4096), true},
		{"buffer's last page", i, region("buffer") + 3*4096, zeros, true},
		{"the image's own page", i, i.Base, "", false},
		{"within a page", i, region("code.0") + 1, "", false},
		{"within a page", i, region("code.0") + 2048, "", false},
		{"no page", i, 0, "", false},
		{"no page at the end", i, 1<<64 - 4096, "", false},
		{"the uart", i, 0xf0000000, "", false},
		{"no image", api.Image{}, 0, "", false},
		{"a text's first page", long, 8192, strings.Repeat("a", 4096), true},
		{"a text's second page", long, 12288, "bc" + zeros[2:], true},
		{"behind a text", long, 16384, zeros, true},
		{"ahead of it", long, 4096, "", false},
		{"behind it", long, 20480, "", false},
	} {
		got, ok := First(c.i, c.page)
		if string(got) != c.want || ok != c.ok || !ok && got != nil {
			t.Errorf("P15.5: %s: %d bytes, %v", c.what, len(got), ok)
		}
	}
}

// TestFirstOfAnyImage: P15.5, R1: of images that no loader has seen, against
// the bytes one by one.
func TestFirstOfAnyImage(t *testing.T) {
	t.Parallel()
	const end = 1<<64 - 4096
	r := rand.New(rand.NewSource(15))
	near := func(list ...uint64) uint64 {
		return pick(r, list...) + pick[uint64](r, 0, 0, 0, 1, 4095, 2048, 1<<64-1)
	}
	found := 0
	for range 20000 {
		var i api.Image
		for range r.Intn(4) {
			i.Regions = append(i.Regions, api.Ground{
				At: near(0, 4096, 8192, 1<<32, end, end-4096), Size: near(0, 4096, 8192, 12288, 1<<32, end, end-4096),
				Fill: uint8(r.Intn(3)), Text: strings.Repeat("abc", pick(r, 0, 0, 1, 1365, 1366, 4000)),
			})
		}
		page := pick[uint64](r, 0, 4096, 8192, 12288, 1<<32, 1<<32+4096, end, end-4096, 1, 4095, 1<<64-1, 4096+2048)
		got, ok := First(i, page)
		want, right := first(i, page)
		if ok != right || !bytes.Equal(got, want) {
			t.Fatalf("P15.5: page %#x of %.500v: %d bytes, %v", page, i.Regions, len(got), ok)
		}
		if ok {
			found++
		}
	}
	if found < 2000 {
		t.Errorf("the images are too tame: %d pages", found)
	}
}

// room is the memory of a list, its spare room too.
type room struct{ first, end uintptr }

// rooms are those of all lists of a thing.
func rooms(v reflect.Value) []room {
	var out []room
	switch v.Kind() {
	case reflect.Struct:
		for i := range v.NumField() {
			out = append(out, rooms(v.Field(i))...)
		}
	case reflect.Slice:
		if v.Cap() > 0 {
			out = append(out, room{v.Pointer(), v.Pointer() + uintptr(v.Cap())*v.Type().Elem().Size()})
		}
		for i := range v.Len() {
			out = append(out, rooms(v.Index(i))...)
		}
	}
	return out
}

// holdRooms tells whether lists have memory of their own, all of them.
func holdRooms(t *testing.T, what string, all ...any) {
	t.Helper()
	var list []room
	for _, x := range all {
		list = append(list, rooms(reflect.ValueOf(x))...)
	}
	slices.SortFunc(list, func(a, b room) int { return int(a.first) - int(b.first) })
	for i := 1; i < len(list); i++ {
		if list[i].first < list[i-1].end {
			t.Errorf("R2: %s: two lists share memory", what)
			return
		}
	}
}

// TestMemory: R2: what is handed in stays as it is, and is not kept.
func TestMemory(t *testing.T) {
	t.Parallel()
	raw := laid(t, small())
	was := string(raw)
	room := append(slices.Clone(raw), "tail"...)
	bytesIn := room[:len(raw)]
	b := smallBus()
	b.Rams = append(b.Rams, api.Range{At: 5, Size: 6})[:2]
	b.Devices = append(b.Devices, api.Range{At: 7, Size: 8})[:3]
	i, err := Check(b, bytesIn)
	if err != nil || string(room) != was+"tail" {
		t.Fatalf("R2: the bytes were changed: %v", err)
	}
	if b.Rams[:3][2] != (api.Range{At: 5, Size: 6}) || b.Devices[:4][3] != (api.Range{At: 7, Size: 8}) || told(b) != told(smallBus()) {
		t.Error("R2: the bus was changed")
	}
	holdRooms(t, "Check", b, room, i)
	m := machine(t, smallBus())
	j, err := Load(m, bytesIn)
	if err != nil || string(room) != was+"tail" {
		t.Fatalf("R2: the bytes were changed: %v", err)
	}
	holdRooms(t, "Load", room, i, j)
	clear(room)
	j.Regions[0].At, j.Tables[0][0] = 0, 0
	if got, _ := m.Read(smallBase, len(raw)); string(got) != was || !sameImage(i, small()) {
		t.Error("R2: what was handed in is kept")
	}
	page, _ := First(i, 0x200000)
	other, _ := First(i, 0x200000)
	holdRooms(t, "First", page, other, i)
	page[0] = 99
	if other[0] != 7 || cap(page) != cap(slices.Clip(page)) {
		t.Error("R2: two answers of First share memory")
	}
}

// TestEmptyLists: R4: nil and empty lists mean the same.
func TestEmptyLists(t *testing.T) {
	t.Parallel()
	b := api.Bus{Rams: []api.Range{{At: 0, Size: 4096}}}
	raw := laid(t, bare(0, b))
	b.Devices = []api.Range{}
	holdCheck(t, "R4: no devices", b, raw, Refusal{})
}

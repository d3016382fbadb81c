package bundle

import (
	"encoding/binary"
	"hash/crc32"
	"reflect"
	"testing"

	"bulkhead/api"
)

// small is an image with one of each thing at least, and no two numbers alike
// beside each other.
func small() api.Image {
	return api.Image{
		Base: 0x123000,
		Bus: api.Bus{
			Rams:    []api.Range{{At: 0x1000, Size: 0x10000}, {At: 0x20000, Size: 0x1122334455667788}},
			Devices: []api.Range{{At: 1 << 30, Size: 4096}, {At: 1<<63 + 5, Size: 3}},
		},
		Subjects: []api.Tenant{
			{CPU: 3, Root: 1, Stopped: true, Rule: 1, To: 260, Vector: 63},
			{CPU: 255, Root: -1, Rule: 254, To: -1, Vector: 253},
		},
		Devices:  []api.Port{{Root: -1}, {Root: 513}},
		Regions:  []api.Ground{{At: 4096, Size: 8192, Fill: 255, Text: "first"}, {At: 7, Size: 9, Text: "eight by"}, {Fill: 1}},
		Channels: []api.Link{{From: 5, To: -1, Effect: 4, Vector: 7}, {From: -1, To: 600, Effect: 0, Vector: 255}},
		Irqs:     []api.Link{{From: 2, To: 3, Effect: api.ByVector, Vector: 9, Masked: true}, {From: -1, To: -1, Effect: api.ByVector}},
		Plans: []api.Schedule{
			{Major: 100, Lanes: [][]api.Stint{{{Subject: 0, Ticks: 99}, {Subject: -1, Ticks: 1}}, nil}},
			{Major: 1<<32 - 1, Lanes: [][]api.Stint{nil, {{Subject: 65534, Ticks: 1<<32 - 2}}}},
		},
		Master: -1,
		Start:  65535,
		Tables: []api.Table{{1, 2, 3}, {511: 0x8000000000000007}},
	}
}

// sum is CRC-32C, as the library has it.
func sum(b []byte) uint32 { return crc32.Checksum(b, crc32.MakeTable(crc32.Castagnoli)) }

// place tells what a section's entry says: its first byte, its length.
func place(b []byte, section int) (int, int) {
	e := b[24+16*(section-1):]
	return int(binary.LittleEndian.Uint32(e[4:])), int(binary.LittleEndian.Uint32(e[8:]))
}

// sealed makes all sums right, those of sections that lie in the bytes.
func sealed(b []byte) []byte {
	for section := 1; section <= 8; section++ {
		first, length := place(b, section)
		if first+length <= len(b) {
			binary.LittleEndian.PutUint32(b[24+16*(section-1)+12:], sum(b[first:first+length]))
		}
	}
	return headSealed(b)
}

// headSealed makes the header's sum right alone.
func headSealed(b []byte) []byte {
	binary.LittleEndian.PutUint32(b[152:], sum(b[:152]))
	return b
}

// encoded is the bytes of an image that is not refused.
func encoded(t *testing.T, i api.Image) []byte {
	t.Helper()
	b, why := Encode(i)
	if why != api.OK {
		t.Fatalf("P13.1: Encode: %v", why)
	}
	return b
}

// tidy is an image whose lists without members are nil: nil and empty mean the
// same, but not to DeepEqual.
func tidy(i api.Image) api.Image {
	i.Bus = api.Bus{Rams: some(i.Bus.Rams), Devices: some(i.Bus.Devices)}
	i.Subjects, i.Devices, i.Regions = some(i.Subjects), some(i.Devices), some(i.Regions)
	i.Channels, i.Irqs, i.Tables = some(i.Channels), some(i.Irqs), some(i.Tables)
	var plans []api.Schedule
	for _, p := range i.Plans {
		var lanes [][]api.Stint
		for _, lane := range p.Lanes {
			lanes = append(lanes, some(lane))
		}
		plans = append(plans, api.Schedule{Major: p.Major, Lanes: lanes})
	}
	i.Plans = plans
	return i
}

func some[T any](list []T) []T {
	if len(list) == 0 {
		return nil
	}
	return list
}

// alike tells whether two images say the same.
func alike(a, b api.Image) bool { return reflect.DeepEqual(tidy(a), tidy(b)) }

// isZero tells whether it is the image beside a refusal.
func isZero(i api.Image) bool { return alike(i, api.Image{}) }

// holdEncode holds Encode and Size of an image against the words, and Decode
// against what was encoded.
func holdEncode(t *testing.T, where string, i api.Image, want api.Errno) {
	t.Helper()
	b, why := Encode(i)
	n, e := Size(i)
	if why != want || e != want {
		t.Errorf("P13.1: %s: Encode %v, Size %v, want %v", where, why, e, want)
		return
	}
	if want != api.OK {
		if len(b) != 0 || n != 0 {
			t.Errorf("R3: %s: %d bytes, %d pages beside %v", where, len(b), n, why)
		}
		return
	}
	if right := spelt(i); string(b) != string(right) {
		t.Errorf("P13.1: %s: %s", where, unlike(b, right))
	}
	if n*4096 != len(b) {
		t.Errorf("P13.1: %s: Size %d of %d bytes", where, n, len(b))
	}
	back, at, why := Decode(b)
	if why != api.OK || at != (api.Where{}) || !alike(back, i) {
		t.Errorf("P13.3: %s: %v at %v", where, why, at)
	}
}

// holdDecode holds Decode of bytes against what must be told.
func holdDecode(t *testing.T, where string, b []byte, section, at int, want api.Errno) {
	t.Helper()
	i, got, why := Decode(b)
	if why != want || got != (api.Where{Section: section, At: at}) {
		t.Errorf("P13.4: %s: %v %v, want {%d %d} %v", where, got, why, section, at, want)
	}
	if why != api.OK && !isZero(i) {
		t.Errorf("R3: %s: an image beside %v", where, why)
	}
}

// holdModel holds Decode of bytes against the model, and what it takes against
// Encode. It tells what was told.
func holdModel(t *testing.T, where string, b []byte) api.Errno {
	t.Helper()
	i, at, why := Decode(b)
	right, there, want := read(b)
	if why != want || at != there || !alike(i, right) {
		t.Errorf("P13.4: %s: %v %v, want %v %v", where, at, why, there, want)
	}
	if why == api.OK {
		if again, e := Encode(i); e != api.OK || string(again) != string(b) {
			t.Errorf("P13.3: %s: taken, but Encode: %v, %s", where, e, unlike(again, b))
		}
	}
	return why
}

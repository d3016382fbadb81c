package bundle

import (
	"bytes"
	"encoding/binary"
	"fmt"
	"math"
	"math/rand"
	"strings"
	"testing"

	"bulkhead/api"
	"bulkhead/check"
)

func pick[T any](r *rand.Rand, list ...T) T { return list[r.Intn(len(list))] }

// maker makes images at random, and turns them and their bytes a little.
type maker struct{ *rand.Rand }

func (m maker) byte() int    { return pick(m.Rand, 0, 1, 2, 63, 255, m.Intn(256)) }
func (m maker) half() int    { return pick(m.Rand, 0, 1, 255, 256, 65534, 65535, m.Intn(65536)) }
func (m maker) none() int    { return pick(m.Rand, -1, 0, 1, 256, 65534, m.Intn(65535)) }
func (m maker) word() int    { return pick(m.Rand, 0, 1, 65536, 1<<31, 1<<32-1, int(m.Uint32())) }
func (m maker) long() uint64 { return pick(m.Rand, 0, 4096, 1<<63, math.MaxUint64, m.Uint64()) }

func (m maker) span() api.Range { return api.Range{At: m.long(), Size: m.long()} }

// several are so many at most.
func several[T any](m maker, most int, one func() T) []T {
	var list []T
	for range m.Intn(most + 1) {
		list = append(list, one())
	}
	return list
}

// image is one that is not refused.
func (m maker) image() api.Image {
	i := api.Image{Base: m.long() &^ 4095, Master: m.none(), Start: m.half()}
	i.Bus = api.Bus{Rams: several(m, 3, m.span), Devices: several(m, 3, m.span)}
	i.Subjects = several(m, 4, func() api.Tenant {
		return api.Tenant{CPU: m.byte(), Root: m.none(), Stopped: m.Intn(2) == 0, Rule: m.byte(), To: m.none(), Vector: m.byte()}
	})
	for range i.Bus.Devices {
		i.Devices = append(i.Devices, api.Port{Root: m.none()})
	}
	i.Regions = several(m, 4, func() api.Ground {
		text := strings.Repeat(pick(m.Rand, "\x00", "t", "\xff"), pick(m.Rand, 0, m.Intn(20), m.Intn(6000)))
		return api.Ground{At: m.long(), Size: m.long(), Fill: uint8(m.byte()), Text: text}
	})
	i.Channels = several(m, 3, func() api.Link {
		return api.Link{From: m.none(), To: m.none(), Effect: m.byte(), Vector: m.byte()}
	})
	i.Irqs = several(m, 3, func() api.Link {
		return api.Link{From: m.none(), To: m.none(), Effect: api.ByVector, Vector: m.byte(), Masked: m.Intn(2) == 0}
	})
	lanes := m.Intn(5)
	i.Plans = several(m, 3, func() api.Schedule {
		p := api.Schedule{Major: m.word()}
		for range lanes {
			p.Lanes = append(p.Lanes, several(m, 3, func() api.Stint { return api.Stint{Subject: m.none(), Ticks: m.word()} }))
		}
		return p
	})
	i.Tables = several(m, 2, func() api.Table {
		table := api.Table{511: m.long()}
		table[m.Intn(512)] = m.long()
		return table
	})
	return i
}

// spoil turns a thing of an image that is then refused, mostly.
func (m maker) spoil(i *api.Image) {
	n := pick(m.Rand, -2, -1, 255, 256, 65534, 65535, 65536, 1<<32-1, 1<<32, math.MinInt, math.MaxInt)
	switch k := m.Intn(12); {
	case k == 0:
		i.Base |= uint64(m.Intn(4096))
	case k == 1:
		i.Devices = append(i.Devices, api.Port{})
	case k == 2:
		i.Master = n
	case k == 3:
		i.Start = n
	case k == 4 && len(i.Subjects) > 0:
		*pick(m.Rand, &i.Subjects[0].CPU, &i.Subjects[0].Rule, &i.Subjects[0].Vector, &i.Subjects[0].To, &i.Subjects[0].Root) = n
	case k == 5 && len(i.Channels) > 0:
		c := &i.Channels[m.Intn(len(i.Channels))]
		*pick(m.Rand, &c.From, &c.To, &c.Effect, &c.Vector) = n
		c.Masked = m.Intn(4) == 0
	case k == 6 && len(i.Irqs) > 0:
		q := &i.Irqs[m.Intn(len(i.Irqs))]
		*pick(m.Rand, &q.From, &q.To, &q.Effect, &q.Vector) = n
	case k == 7 && len(i.Plans) > 0:
		p := &i.Plans[m.Intn(len(i.Plans))]
		p.Major = n
		if m.Intn(3) == 0 {
			p.Lanes = append(p.Lanes, nil)
		}
	case k == 8 && len(i.Plans) > 0 && len(i.Plans[0].Lanes) > 0:
		i.Plans[0].Lanes[0] = append(i.Plans[0].Lanes[0], api.Stint{Subject: n, Ticks: m.word()}, api.Stint{Ticks: n})
	case k == 9 && len(i.Regions) > 0:
		i.Regions[0].Text = strings.Repeat("l", 1<<20+m.Intn(3))
	case k == 10 && len(i.Devices) > 0:
		i.Devices[0].Root = n
	case k == 11 && m.Intn(2) == 0:
		i.Tables = make([]api.Table, 1021+m.Intn(5))
	}
}

// TestAtRandom: P13.1, P13.2, P13.3: images that are right, and such as are not.
func TestAtRandom(t *testing.T) {
	t.Parallel()
	m := maker{rand.New(rand.NewSource(13))}
	told := map[api.Errno]int{}
	for round := range 1500 {
		i := m.image()
		if why := refused(i); why != api.OK {
			t.Fatalf("round %d: the maker's image is refused: %v", round, why)
		}
		for range m.Intn(3) {
			m.spoil(&i)
		}
		want := refused(i)
		told[want]++
		holdEncode(t, fmt.Sprint("round ", round), i, want)
	}
	for _, why := range []api.Errno{api.OK, api.ErrField, api.ErrLong, api.ErrMany} {
		if told[why] < 10 {
			t.Errorf("%v was told %d times: the images are too tame", why, told[why])
		}
	}
}

// turnBytes turns some of an image's bytes.
func (m maker) turnBytes(b []byte) []byte {
	for range 1 + m.Intn(3) {
		at := pick(m.Rand, m.Intn(160), 160+m.Intn(len(b)-160), 160+m.Intn(200), 160+m.Intn(400))
		switch m.Intn(5) {
		case 0:
			b[at] ^= 1 << m.Intn(8)
		case 1:
			b[at] = byte(m.byte())
		case 2: // of the directory: a length, a first byte
			e := 24 + 16*m.Intn(8) + pick(m.Rand, 4, 8)
			binary.LittleEndian.PutUint32(b[e:], binary.LittleEndian.Uint32(b[e:])+uint32(m.Intn(17)-8))
		case 3:
			b[at]++
		case 4: // a row's number of members, and what is about it
			first, _ := place(b, 1+m.Intn(7))
			if first+8 < len(b) {
				b[first+m.Intn(8)] = byte(m.Intn(4))
			}
		}
	}
	return pick(m.Rand, b, b, b, b[:m.Intn(len(b))], append(b, 0))
}

// TestBytesAtRandom: P13.3, P13.4: bytes that are turned, with sums made right
// or not.
func TestBytesAtRandom(t *testing.T) {
	t.Parallel()
	m := maker{rand.New(rand.NewSource(4))}
	told := map[string]int{}
	for round := range 6000 {
		b := m.turnBytes(encoded(t, m.image()))
		if len(b) >= 160 {
			switch m.Intn(8) {
			case 0:
			case 1:
				headSealed(b)
			default:
				sealed(b)
			}
		}
		holdModel(t, fmt.Sprint("round ", round), b)
		_, at, why := Decode(b)
		told[fmt.Sprint(int(why), " in ", at.Section)]++
	}
	for _, what := range []string{"0 in 0", "5 in 0", "5 in 1", "5 in 2", "5 in 3", "5 in 4", "5 in 5", "5 in 6", "5 in 7", "5 in 8", "10 in 0", "11 in 0", "11 in 4", "12 in 0", "130 in 0", "131 in 0", "132 in 0"} {
		if told[what] < 3 {
			t.Errorf("%s was told %d times: the bytes are too tame", what, told[what])
		}
	}
}

// TestSectionsAtRandom: P13.3, P13.4: sections of any bytes in a right image.
func TestSectionsAtRandom(t *testing.T) {
	t.Parallel()
	m := maker{rand.New(rand.NewSource(7))}
	told := map[api.Errno]int{}
	for round := range 6000 {
		list := contents(m.image())
		k := m.Intn(7)
		s := bytes.Clone(list[k])
		if m.Intn(3) == 0 {
			s = s[:m.Intn(len(s)+1)]
		}
		for range m.Intn(4) {
			s = append(s, byte(m.Intn(3)))
		}
		for range m.Intn(3) {
			if len(s) > 0 {
				s[pick(m.Rand, 0, m.Intn(len(s)))] = byte(pick(m.Rand, 0, 1, 2, 3, 255))
			}
		}
		list[k] = s
		told[holdModel(t, fmt.Sprint("round ", round), joined(m.long()&^4095, list))]++
	}
	if told[api.OK] < 500 || told[api.ErrForm] < 500 {
		t.Errorf("not all was met: %v", told)
	}
}

// TestAnyBytes: R1, P13.4: bytes of no image.
func TestAnyBytes(t *testing.T) {
	t.Parallel()
	m := maker{rand.New(rand.NewSource(1))}
	for round := range 3000 {
		b := make([]byte, pick(m.Rand, m.Intn(400), 4096, 8192))
		m.Read(b)
		if len(b) >= 160 {
			copy(b, "BULKHEAD\x01\x00\x08\x00")
			setWord(b, 12, uint32(len(b)/4096))
			setWord(b, 156, 0)
			b[16], b[17] = 0, 0
			if headSealed(b); m.Intn(2) == 0 {
				copy(b[24:], encoded(t, api.Image{})[24:152])
				sealed(b)
			}
		}
		holdModel(t, fmt.Sprint("round ", round), b)
	}
}

// turnBits turns the bits of a pattern from a bit on, if all lie in b.
func turnBits(b []byte, from int, pattern uint32) bool {
	for k := range 32 {
		if pattern>>k&1 == 1 && from+k >= 8*len(b) {
			return false
		}
	}
	for k := range 32 {
		if pattern>>k&1 == 1 {
			b[(from+k)/8] ^= 1 << ((from + k) % 8)
		}
	}
	return true
}

// holdBurst holds that bytes of an image with a burst in one piece of them are
// refused; the image is as it was behind it.
func holdBurst(t *testing.T, image, piece []byte, from int, pattern uint32) {
	t.Helper()
	if !turnBits(piece, from, pattern) {
		return
	}
	i, at, why := Decode(image)
	if why == api.OK || !isZero(i) {
		t.Errorf("P13.5: %d bytes: %#x from bit %d on is taken: %v", len(piece), pattern, from, at)
	}
	turnBits(piece, from, pattern)
}

// TestBursts: P13.5: in the header's first 156 bytes, and in each section.
func TestBursts(t *testing.T) {
	t.Parallel()
	m := maker{rand.New(rand.NewSource(5))}
	image := encoded(t, small())
	pieces := [][]byte{image[:156]}
	for section := 1; section <= 8; section++ {
		first, length := place(image, section)
		pieces = append(pieces, image[first:first+length])
	}
	for _, piece := range pieces {
		bits := 8 * len(piece)
		step := 1 + bits/600
		for from := 0; from < bits; from += step {
			for _, pattern := range []uint32{1, 3, 5, 0x80000001, 0xFFFFFFFF, 0x82F63B79, 0x05EC76F1, m.Uint32() | 1, 1 | 1<<m.Intn(32), m.Uint32()>>m.Intn(31) | 1} {
				holdBurst(t, image, piece, from, pattern)
			}
		}
		holdBurst(t, image, piece, bits-1, 1)
		holdBurst(t, image, piece, bits-32, 0x80000001)
	}
	holdDecode(t, "as it was", image, 0, 0, api.OK)
}

// TestAsChecked: P13.1: Size of a policy's image is what check.Pages says of the
// policy, by which the image is laid out.
func TestAsChecked(t *testing.T) {
	t.Parallel()
	m := maker{rand.New(rand.NewSource(10))}
	met := map[int]int{}
	for range 1000 {
		i := m.image()
		i.Tables = make([]api.Table, len(i.Subjects))
		for k := range i.Plans {
			i.Plans[k].Lanes = [][]api.Stint{{{Subject: -1, Ticks: 1}}, {{Subject: -1, Ticks: 1}}, {{Subject: -1, Ticks: 1}}, {{Subject: -1, Ticks: 1}}}
		}
		p := api.Policy{
			Rams: make([]api.Ram, len(i.Bus.Rams)), Devices: make([]api.Device, len(i.Devices)), Subjects: make([]api.Subject, len(i.Subjects)),
			Channels: make([]api.Channel, len(i.Channels)), Irqs: make([]api.IrqLine, len(i.Irqs)), Plans: make([]api.Plan, len(i.Plans)),
		}
		for _, g := range i.Regions {
			p.Regions = append(p.Regions, api.Region{Texted: true, Text: g.Text})
		}
		for k := range p.Plans {
			p.Plans[k].Major = 1
		}
		n, why := Size(i)
		if want := check.Pages(p); why != api.OK || n != want {
			t.Fatalf("P13.1: %d pages, %v, want %d\n%+v", n, why, want, p)
		}
		met[n-len(i.Tables)]++
	}
	if len(met) < 3 {
		t.Errorf("not all was met: %v", met)
	}
}

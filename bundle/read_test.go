package bundle

import (
	"bytes"
	"encoding/binary"
	"fmt"
	"strings"
	"testing"

	"bulkhead/api"
)

// setWord lays a Word down at a byte.
func setWord(b []byte, at int, n uint32) { binary.LittleEndian.PutUint32(b[at:], n) }

// TestZeroBack: the chapter's runs of the zero image.
func TestZeroBack(t *testing.T) {
	t.Parallel()
	zero := encoded(t, api.Image{})
	turned := func(at int) []byte {
		b := bytes.Clone(zero)
		b[at] ^= 0x10
		return b
	}
	if i, at, why := Decode(zero); why != api.OK || at != (api.Where{}) || !isZero(i) {
		t.Errorf("P13.3: %v %v", at, why)
	}
	holdDecode(t, "nil", nil, 0, 0, api.ErrShort)
	holdDecode(t, "no bytes", []byte{}, 0, 0, api.ErrShort)
	holdDecode(t, "4095 bytes", zero[:4095], 0, 4095, api.ErrShort)
	holdDecode(t, "one more", append(bytes.Clone(zero), 0), 0, 4096, api.ErrTail)
	holdDecode(t, "a page more", append(bytes.Clone(zero), make([]byte, 4096)...), 0, 4096, api.ErrTail)
	holdDecode(t, "the byte 4000", turned(4000), 8, 4000, api.ErrForm)
	holdDecode(t, "the byte 9", turned(9), 0, 8, api.ErrVersion)
	holdDecode(t, "the byte 20", turned(20), 0, 152, api.ErrSum)
	for section := 1; section <= 7; section++ {
		first := 160 + 8*(section-1)
		for at := first; at < first+8; at++ {
			holdDecode(t, fmt.Sprint("the byte ", at), turned(at), section, first, api.ErrSum)
		}
	}
	for at := 216; at < 4096; at++ {
		holdDecode(t, fmt.Sprint("the byte ", at), turned(at), 8, at, api.ErrForm)
	}
	none := encoded(t, api.Image{Subjects: []api.Tenant{{Root: -1}}})
	if i, _, why := Decode(none); why != api.OK || i.Subjects[0].Root != -1 || string(none[182:184]) != "\xff\xff" {
		t.Errorf("P13.3: Root -1: %v, %v", i.Subjects, why)
	}
}

// headerTurns are the header's refusals in their order: what turns good bytes
// (of three pages) so that the one is told, and where.
func headerTurns() []struct {
	name string
	turn func(b []byte) []byte
	at   int
	why  api.Errno
} {
	same := func(turn func(b []byte)) func(b []byte) []byte {
		return func(b []byte) []byte { turn(b); return b }
	}
	return []struct {
		name string
		turn func(b []byte) []byte
		at   int
		why  api.Errno
	}{
		{"magic", same(func(b []byte) { b[7] = 'd' }), 0, api.ErrMagic},
		{"version", same(func(b []byte) { b[8] = 2 }), 8, api.ErrVersion},
		{"sections", same(func(b []byte) { b[10] = 7 }), 10, api.ErrForm},
		{"sum", same(func(b []byte) { b[152]++ }), 152, api.ErrSum},
		{"zero", same(func(b []byte) { b[157] = 1 }), 156, api.ErrForm},
		{"pages", same(func(b []byte) { setWord(b, 12, 1025) }), 12, api.ErrMany},
		{"short", func(b []byte) []byte { return b[:12000] }, 12000, api.ErrShort},
		{"tail", func(b []byte) []byte { return append(b, 0) }, 12288, api.ErrTail},
		{"base", same(func(b []byte) { b[17] = 1 }), 16, api.ErrField},
		{"directory", same(func(b []byte) { b[24] = 2 }), 24, api.ErrForm},
	}
}

// TestHeader: P13.4: each of the header's refusals alone, and which one goes
// ahead of which.
func TestHeader(t *testing.T) {
	t.Parallel()
	turns := headerTurns()
	for k, one := range turns {
		for _, two := range turns[k:] {
			b := encoded(t, small())
			if one.name == two.name {
				b = one.turn(b)
			} else if one.name == "short" && two.name == "tail" {
				continue
			} else {
				b = one.turn(two.turn(b))
			}
			if one.name != "sum" && two.name != "sum" {
				headSealed(b)
			} else if one.name != "sum" {
				// What goes ahead of the sum is asked first, right or not.
				headSealed(b)[152]++
			}
			holdDecode(t, one.name+", "+two.name, b, 0, one.at, one.why)
			holdModel(t, one.name+", "+two.name, b)
		}
	}
}

// TestHeaderEdges: P13.4: how many bytes and pages there may be.
func TestHeaderEdges(t *testing.T) {
	t.Parallel()
	good := encoded(t, small())
	for n := range 160 {
		holdDecode(t, fmt.Sprint(n, " bytes"), good[:n], 0, n, api.ErrShort)
		holdDecode(t, fmt.Sprint(n, " zeros"), make([]byte, n), 0, n, api.ErrShort)
	}
	for n := 160; n < len(good); n++ {
		holdDecode(t, fmt.Sprint(n, " bytes"), good[:n], 0, n, api.ErrShort)
	}
	for n := 1; n < 4; n++ {
		holdDecode(t, fmt.Sprint(n, " too many"), append(bytes.Clone(good), make([]byte, n)...), 0, 12288, api.ErrTail)
	}
	holdDecode(t, "160 zeros", make([]byte, 160), 0, 0, api.ErrMagic)
	for _, c := range []struct {
		pages uint32
		at    int
		want  api.Errno
	}{
		{0, 0, api.ErrTail}, {1, 4096, api.ErrTail}, {2, 8192, api.ErrTail}, {4, 12288, api.ErrShort}, {1024, 12288, api.ErrShort},
		{1025, 12, api.ErrMany}, {1 << 20, 12, api.ErrMany}, {1<<20 + 3, 12, api.ErrMany}, {1 << 31, 12, api.ErrMany}, {1<<32 - 1, 12, api.ErrMany},
	} {
		b := bytes.Clone(good)
		setWord(b, 12, c.pages)
		holdDecode(t, fmt.Sprint(c.pages, " pages"), headSealed(b), 0, c.at, c.want)
	}
	alone := bytes.Clone(good[:160])
	holdDecode(t, "the header alone", alone, 0, 160, api.ErrShort)
	setWord(alone, 12, 0)
	holdDecode(t, "the header of no pages", headSealed(alone), 0, 0, api.ErrTail)
	great := encoded(t, filled(1024*4096))
	holdDecode(t, "1024 pages", great, 0, 0, api.OK)
	holdDecode(t, "1024 pages, and a byte", append(great, 0), 0, 1024*4096, api.ErrTail)
}

// TestHeaderBytes: P13.4: each byte of the header, with its sum made right and
// not.
func TestHeaderBytes(t *testing.T) {
	t.Parallel()
	good := encoded(t, small())
	for at := range 160 {
		for _, n := range []byte{0, 1, 2, 7, 8, 16, 127, 128, 255} {
			b := bytes.Clone(good)
			b[at] = n
			holdModel(t, fmt.Sprintf("byte %d is %d", at, n), b)
			if at < 152 {
				holdModel(t, fmt.Sprintf("byte %d is %d, sealed", at, n), headSealed(b))
			}
		}
	}
}

// TestDirectory: P13.4: each field of each entry. The first entry that is wrong
// is told.
func TestDirectory(t *testing.T) {
	t.Parallel()
	good := encoded(t, small())
	for section := 1; section <= 8; section++ {
		entry := 24 + 16*(section-1)
		first, length := place(good, section)
		turn := func(name string, at int, n uint32) {
			t.Helper()
			b := bytes.Clone(good)
			setWord(b, entry+at, n)
			holdDecode(t, fmt.Sprintf("section %d: %s %d", section, name, n), headSealed(b), 0, entry, api.ErrForm)
			if section < 8 { // a later entry that is wrong, too
				b[24+16*7]++
				holdDecode(t, fmt.Sprintf("section %d: %s %d, and the last", section, name, n), headSealed(b), 0, entry, api.ErrForm)
			}
		}
		for _, n := range []uint32{0, uint32(section) - 1, uint32(section) + 1, 9, uint32(section) + 256, uint32(section) + 1<<16, uint32(section) + 1<<24} {
			turn("number", 0, n)
		}
		for _, n := range []int{0, 8, first - 8, first - 1, first + 1, first + 8, first + 4096, len(good), len(good) + 8, 1 << 31, 1<<32 - 8, 1<<32 - 1} {
			turn("first", 4, uint32(n))
		}
		for _, n := range []int{len(good) - first + 1, len(good), 1 << 31, 1<<32 - first, 1<<32 - 8, 1<<32 - 1} {
			turn("length", 8, uint32(n))
		}
		if section == 8 {
			for _, n := range []int{0, 4096, length - 8, length - 1, length + 8, length + 4096} {
				turn("length", 8, uint32(n))
			}
		}
	}
}

// TestLengths: P13.4: a length that is not its section's lets the next section
// begin elsewhere; all of the image is some section's, or zeros.
func TestLengths(t *testing.T) {
	t.Parallel()
	good := encoded(t, small())
	for section := 1; section <= 7; section++ {
		first, length := place(good, section)
		next := 24 + 16*section
		for _, n := range []int{0, length - 9, length - 8, length + 1, length + 8, len(good) - first - 1} {
			b := bytes.Clone(good)
			setWord(b, next-8, uint32(n))
			headSealed(b)
			if section == 7 && n < 4096-first { // the tables begin where they did
				holdDecode(t, fmt.Sprintf("section 7 of %d bytes", n), b, 7, first, api.ErrSum)
				continue
			}
			holdDecode(t, fmt.Sprintf("section %d of %d bytes", section, n), b, 0, next, api.ErrForm)
		}
		// Seven bytes less end within the same eight: the entries are right, the
		// byte ahead of the next section is not 0, or the sum is wrong.
		for n := length - 7; n < length; n++ {
			b := bytes.Clone(good)
			setWord(b, next-8, uint32(n))
			holdModel(t, fmt.Sprintf("section %d of %d bytes", section, n), headSealed(b))
			holdModel(t, fmt.Sprintf("section %d of %d bytes, sealed", section, n), sealed(b))
			clear(b[first+n : first+length])
			b[first+length-1] = 9
			holdDecode(t, fmt.Sprintf("section %d of %d bytes, then 9", section, n), sealed(b), section+1, first+length-1, api.ErrForm)
		}
	}
	b := bytes.Clone(good)
	setWord(b, 24+16*6+8, 1<<13) // the plans up to the second table
	first, _ := place(b, 7)
	holdDecode(t, "plans over a table", headSealed(b), 0, 24+16*7, api.ErrForm)
	setWord(b, 24+16*7+4, uint32((first+1<<13+4095)/4096*4096))
	setWord(b, 24+16*7+8, 0)
	holdDecode(t, "plans over all tables", headSealed(b), 7, first, api.ErrSum)
}

// TestSeals: P13.4: zeros and sums, section by section, ahead of all fields.
func TestSeals(t *testing.T) {
	t.Parallel()
	odd := contents(small())
	odd[1] = append(odd[1], 0) // a byte too much, and seven zeros ahead of section 3
	good := joined(0, odd)
	two, length := place(good, 2)
	three, _ := place(good, 3)
	seven, last := place(good, 7)
	gap := two + length
	turned := func(ats ...int) []byte {
		b := bytes.Clone(good)
		for _, at := range ats {
			b[at]++
		}
		return b
	}
	holdDecode(t, "nothing", turned(), 2, gap-1, api.ErrForm)
	holdDecode(t, "zeros ahead of 3", turned(gap+2), 3, gap+2, api.ErrForm)
	holdDecode(t, "two bytes of them", turned(gap+5, gap+3), 3, gap+3, api.ErrForm)
	holdDecode(t, "the last of them", turned(three-1), 3, three-1, api.ErrForm)
	holdDecode(t, "the first of them", turned(gap), 3, gap, api.ErrForm)
	holdDecode(t, "section 3's sum behind its zeros", turned(gap+2, three), 3, gap+2, api.ErrForm)
	holdDecode(t, "section 2's sum ahead of 3's zeros", turned(gap+2, two+9), 2, two, api.ErrSum)
	holdDecode(t, "section 3's sum ahead of 8's zeros", turned(seven+last, three+1), 3, three, api.ErrSum)
	holdDecode(t, "zeros ahead of 8", turned(seven+last, 4096), 8, seven+last, api.ErrForm)
	holdDecode(t, "the last of these", turned(4095), 8, 4095, api.ErrForm)
	holdDecode(t, "the tables' sum ahead of section 2's form", turned(12287), 8, 4096, api.ErrSum)
	for section := 1; section <= 8; section++ {
		first, length := place(good, section)
		for at := first; at < first+length; at += 1 + length/100 {
			holdDecode(t, fmt.Sprint("the byte ", at), turned(at), section, first, api.ErrSum)
		}
		holdDecode(t, fmt.Sprint("the last byte of ", section), turned(first+length-1), section, first, api.ErrSum)
		b := bytes.Clone(good)
		b[24+16*(section-1)+12]++
		holdDecode(t, fmt.Sprint("the sum of ", section), headSealed(b), section, first, api.ErrSum)
	}
	zero := encoded(t, api.Image{})
	setWord(zero, 24+16*7+12, 1)
	holdDecode(t, "the sum of no tables", headSealed(zero), 8, 4096, api.ErrSum)
}

// TestForms: P13.4: the chapter's rows, each at the byte at which its field
// begins.
func TestForms(t *testing.T) {
	t.Parallel()
	good := encoded(t, small())
	for _, c := range []struct {
		name             string
		section, byte, n int
		at               int
	}{
		{"the bus' Word 0, its first byte", bus, 4, 1, 4},
		{"the bus' Word 0, its last byte", bus, 7, 1, 4},
		{"a ram more", bus, 0, 3, 72},
		{"a ram less", bus, 0, 1, 56},
		{"a window more", bus, 2, 3, 72},
		{"many rams", bus, 1, 255, 72},
		{"subjects' six zeros", subjects, 7, 1, 2},
		{"Stopped 2", subjects, 9, 2, 9},
		{"Stopped 255", subjects, 17, 255, 17},
		{"a subject more", subjects, 0, 3, 24},
		{"a subject less", subjects, 0, 1, 16},
		{"no subject", subjects, 0, 0, 8},
		{"a port less", ports, 0, 1, 0},
		{"a port more", ports, 0, 3, 0},
		{"many ports", ports, 1, 1, 0},
		{"ports' six zeros", ports, 5, 1, 2},
		{"a port's six zeros", ports, 12, 1, 10},
		{"the other port's", ports, 23, 1, 18},
		{"regions' six zeros", regions, 2, 1, 2},
		{"a region's three zeros", regions, 27, 1, 25},
		{"a Text beyond the end", regions, 28, 200, 28},
		{"a Text far beyond the end", regions, 31, 255, 28},
		{"a Text above MaxText", regions, 30, 16, 28},
		{"zeros behind a Text", regions, 38, 1, 37},
		{"the last of them", regions, 39, 1, 37},
		{"a shorter Text", regions, 28, 4, 36},
		{"no Text", regions, 28, 0, 80}, // the Text is taken as the next region's At, and so on
		{"a region more", regions, 0, 4, 96},
		{"a region less", regions, 0, 2, 72},
		{"channels' six zeros", channels, 3, 1, 2},
		{"a channel's Half 0", channels, 14, 1, 14},
		{"its other byte", channels, 15, 1, 14},
		{"a channel more", channels, 0, 3, 24},
		{"irqs' six zeros", irqs, 4, 1, 2},
		{"Masked 2", irqs, 13, 2, 13},
		{"Masked 128", irqs, 21, 128, 21},
		{"an irq's Half 0", irqs, 23, 1, 22},
		{"an irq less", irqs, 0, 1, 16},
		{"lanes without plans", plans, 0, 0, 2},
		{"a plan more", plans, 0, 3, 80},
		{"a plan less", plans, 0, 1, 48},
		{"a lane less", plans, 2, 1, 50}, // the second lane is taken as the second plan
		{"a plan's Word 0", plans, 12, 1, 12},
		{"its last byte", plans, 15, 1, 12},
		{"a lane's six zeros", plans, 18, 1, 18},
		{"its last zero", plans, 23, 1, 18},
		{"a stint's Half 0", plans, 27, 1, 26},
		{"many stints", plans, 17, 1, 50}, // the stints go on over the next lane and plan
	} {
		b := bytes.Clone(good)
		first, _ := place(b, c.section)
		b[first+c.byte] = byte(c.n)
		sealed(b)
		if _, there, _ := read(b); there != (api.Where{Section: c.section, At: first + c.at}) {
			t.Errorf("the model: %s: %v, want {%d %d}", c.name, there, c.section, first+c.at)
		}
		holdDecode(t, c.name, b, c.section, first+c.at, api.ErrForm)
	}
}

// TestFormsInOrder: P13.4: the section ahead is told, and in a section the field
// ahead.
func TestFormsInOrder(t *testing.T) {
	t.Parallel()
	spots := [][2]int{{bus, 4}, {subjects, 2}, {subjects, 9}, {ports, 0}, {ports, 10}, {regions, 25}, {regions, 28}, {channels, 14}, {irqs, 13}, {irqs, 22}, {plans, 12}, {plans, 18}, {plans, 26}}
	for k, one := range spots {
		for _, two := range spots[k:] {
			b := encoded(t, small())
			first, _ := place(b, one[0])
			second, _ := place(b, two[0])
			b[second+two[1]] = 250
			b[first+one[1]] = 250
			holdDecode(t, fmt.Sprint(one, two), sealed(b), one[0], first+one[1], api.ErrForm)
		}
	}
}

// TestEveryByte: P13.3, P13.4: each byte of each section but the tables, with
// the sums made right: it is taken and spelt so again, or refused as the words
// say.
func TestEveryByte(t *testing.T) {
	t.Parallel()
	good := encoded(t, small())
	told := map[api.Errno]int{}
	end, length := place(good, 7)
	for at := 160; at < end+length; at++ {
		for _, n := range []byte{0, 1, 2, 3, 5, 8, 16, 24, 128, 254, 255, good[at] + 1, good[at] - 1} {
			b := bytes.Clone(good)
			b[at] = n
			told[holdModel(t, fmt.Sprintf("byte %d is %d", at, n), sealed(b))]++
		}
	}
	if told[api.OK] < 500 || told[api.ErrForm] < 500 || len(told) != 2 {
		t.Errorf("not all was met: %v", told)
	}
}

// TestCut: P13.4: each section but the last with fewer bytes, and with more.
func TestCut(t *testing.T) {
	t.Parallel()
	good := contents(small())
	for k := range 7 {
		for n := range len(good[k]) {
			list := good
			list[k] = good[k][:n]
			b := joined(4096, list)
			if why := holdModel(t, fmt.Sprintf("section %d of %d bytes", k+1, n), b); why != api.ErrForm {
				t.Errorf("P13.4: section %d of %d bytes: %v", k+1, n, why)
			}
		}
		for _, tail := range []string{"\x00", "\x01", strings.Repeat("\x00", 8), strings.Repeat("\x07", 16), strings.Repeat("\x00", 5000)} {
			list := good
			list[k] = append(bytes.Clone(good[k]), tail...)
			b := joined(4096, list)
			first, _ := place(b, k+1)
			holdDecode(t, fmt.Sprintf("section %d and %d bytes", k+1, len(tail)), b, k+1, first+len(good[k]), api.ErrForm)
		}
	}
	var none [8][]byte
	holdDecode(t, "no section has bytes", padded(joined(0, none), 4096), 1, 160, api.ErrForm)
}

// TestLongText: P13.4: a Text above MaxText that lies in its section.
func TestLongText(t *testing.T) {
	t.Parallel()
	for n, want := range map[int]api.Errno{1<<20 - 1: api.OK, 1 << 20: api.OK, 1<<20 + 1: api.ErrForm, 1<<20 + 8: api.ErrForm, 1 << 21: api.ErrForm} {
		b := spelt(api.Image{Regions: []api.Ground{{Text: "ahead"}, {Text: strings.Repeat("t", n)}}})
		at := api.Where{}
		if want != api.OK {
			first, _ := place(b, regions)
			at = api.Where{Section: regions, At: first + 8 + 32 + 20}
		}
		holdDecode(t, fmt.Sprint("a Text of ", n), b, at.Section, at.At, want)
	}
}

// TestClaims: R1: numbers that claim more than there is take no time and no
// room.
func TestClaims(t *testing.T) {
	t.Parallel()
	for _, plan := range [][]byte{
		row{}.put(2, 65535, 65535, 0, 0),
		row{}.put(2, 65535, 65535, 0, 0).put(4, 1, 1),
		append(row{}.put(2, 65535, 0, 0, 0), make([]byte, 8*65534)...),
		append(row{}.put(2, 1, 65535, 0, 0), make([]byte, 8*65535)...),
		append(row{}.put(2, 65535, 6, 0, 0), make([]byte, 8*400000)...),
		append(row{}.put(2, 65535, 65535, 0, 0), make([]byte, 8*500000)...),
	} {
		list := contents(api.Image{})
		list[6] = plan
		if why := holdModel(t, fmt.Sprintf("plans of %d bytes", len(plan)), joined(0, list)); why != api.ErrForm {
			t.Errorf("P13.4: %v", why)
		}
	}
}

// TestBack: P13.3: images that are all of one kind, and their greatest numbers.
func TestBack(t *testing.T) {
	t.Parallel()
	for _, i := range []api.Image{
		{Base: 1<<64 - 4096},
		{Tables: make([]api.Table, 1)},
		{Tables: make([]api.Table, 1023)},
		{Master: -1},
		{Master: 65534, Start: 65535},
		{Plans: make([]api.Schedule, 3)},
		{Plans: []api.Schedule{{Lanes: make([][]api.Stint, 7)}}},
		{Subjects: []api.Tenant{{To: -1, Root: -1}, {To: 65534, Root: 65534, CPU: 255, Rule: 255, Vector: 255, Stopped: true}}},
		{Regions: []api.Ground{{At: 1<<64 - 1, Size: 1<<64 - 1, Fill: 255, Text: "\x00\x00"}}},
		{Irqs: []api.Link{{From: -1, To: 65534, Effect: api.ByVector, Vector: 255, Masked: true}}},
		{Channels: []api.Link{{From: 65534, To: -1, Effect: 255, Vector: 255}}},
	} {
		holdEncode(t, fmt.Sprintf("%+v", i)[:60], i, api.OK)
	}
}

// TestDecodeKeeps: R2: what is handed in stays as it was; the image is new
// memory, and no two lists of it share any.
func TestDecodeKeeps(t *testing.T) {
	t.Parallel()
	good := encoded(t, small())
	spare := append(make([]byte, 0, len(good)+100), good...)
	copy(spare[len(good):cap(spare)], bytes.Repeat([]byte{7}, 100))
	i, _, why := Decode(spare)
	if why != api.OK || !bytes.Equal(spare, good) || !bytes.Equal(spare[len(good):cap(spare)], bytes.Repeat([]byte{7}, 100)) {
		t.Fatalf("R2: the bytes were changed: %v", why)
	}
	clear(spare[:cap(spare)])
	if !alike(i, small()) {
		t.Errorf("R2: the image hangs on the bytes")
	}
	j, _, _ := Decode(good)
	fill(i.Bus.Rams, api.Range{At: 1})
	fill(i.Plans[0].Lanes[0], api.Stint{Ticks: 5})
	fill(i.Plans[0].Lanes, nil)
	fill(i.Channels, api.Link{})
	fill(i.Tables, api.Table{9})
	want := small()
	if !alike(api.Image{Bus: api.Bus{Devices: i.Bus.Devices}, Irqs: i.Irqs, Plans: i.Plans[1:]}, api.Image{Bus: api.Bus{Devices: want.Bus.Devices}, Irqs: want.Irqs, Plans: want.Plans[1:]}) || !alike(j, want) {
		t.Errorf("R2: two lists share memory")
	}
}

// fill overwrites a list and its spare room.
func fill[T any](list []T, x T) {
	list = list[:cap(list)]
	for k := range list {
		list[k] = x
	}
}

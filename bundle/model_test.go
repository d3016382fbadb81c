package bundle

import (
	"encoding/binary"
	"fmt"
	"testing"

	"bulkhead/api"
)

// The chapter's words, as plainly as can be: a section is a row of fields, each
// a number and how many bytes it has.

// row is bytes that numbers are put behind.
type row []byte

// put puts numbers of so many bytes each behind the others.
func (r row) put(bytes int, numbers ...int) row {
	for _, n := range numbers {
		r = append(r, binary.LittleEndian.AppendUint64(nil, uint64(n))[:bytes]...)
	}
	return r
}

// many puts how many there are, and six zeros.
func (r row) many(n int) row { return r.put(2, n, 0, 0, 0) }

// contents are the bytes of an image's eight sections, whatever it says.
func contents(i api.Image) [8][]byte {
	bus := row{}.put(2, len(i.Bus.Rams), len(i.Bus.Devices), 0, 0)
	for _, list := range [][]api.Range{i.Bus.Rams, i.Bus.Devices} {
		for _, s := range list {
			bus = bus.put(8, int(s.At), int(s.Size))
		}
	}
	subjects := row{}.many(len(i.Subjects))
	for _, s := range i.Subjects {
		subjects = subjects.put(1, s.CPU, bit(s.Stopped), s.Rule, s.Vector).put(2, s.To, s.Root)
	}
	ports := row{}.many(len(i.Devices))
	for _, p := range i.Devices {
		ports = ports.put(2, p.Root, 0, 0, 0)
	}
	regions := row{}.many(len(i.Regions))
	for _, g := range i.Regions {
		regions = regions.put(8, int(g.At), int(g.Size)).put(1, int(g.Fill), 0, 0, 0).put(4, len(g.Text))
		regions = padded(append(regions, g.Text...), 8)
	}
	channels := row{}.many(len(i.Channels))
	for _, c := range i.Channels {
		channels = channels.put(2, c.From, c.To).put(1, c.Effect, c.Vector, 0, 0)
	}
	irqs := row{}.many(len(i.Irqs))
	for _, q := range i.Irqs {
		irqs = irqs.put(2, q.From, q.To).put(1, q.Vector, bit(q.Masked), 0, 0)
	}
	lanes := 0
	for _, p := range i.Plans {
		lanes = len(p.Lanes)
	}
	plans := row{}.put(2, len(i.Plans), lanes, i.Master, i.Start)
	for _, p := range i.Plans {
		plans = plans.put(4, p.Major, 0)
		for _, lane := range p.Lanes {
			plans = plans.many(len(lane))
			for _, s := range lane {
				plans = plans.put(2, s.Subject, 0).put(4, s.Ticks)
			}
		}
	}
	tables := row{}
	for _, table := range i.Tables {
		for _, e := range table {
			tables = tables.put(8, int(e))
		}
	}
	return [8][]byte{bus, subjects, ports, regions, channels, irqs, plans, tables}
}

func bit(set bool) int {
	if set {
		return 1
	}
	return 0
}

func padded(b []byte, align int) []byte {
	for len(b)%align != 0 {
		b = append(b, 0)
	}
	return b
}

// joined is an image of sections, whatever they are, with a header that is
// right.
func joined(base uint64, list [8][]byte) []byte {
	b := make([]byte, 160)
	var directory row
	for k, s := range list {
		if b = padded(b, 8); k == 7 {
			b = padded(b, 4096)
		}
		directory = directory.put(2, k+1, 0).put(4, len(b), len(s), int(sum(s)))
		b = append(b, s...)
	}
	head := append(row("BULKHEAD"), row{}.put(2, 1, 8).put(4, len(b)/4096).put(8, int(base))...)
	head = append(head, directory...)
	copy(b, head.put(4, int(sum(head)), 0))
	return b
}

// spelt is the bytes of an image that is not refused.
func spelt(i api.Image) []byte { return joined(i.Base, contents(i)) }

// refused tells what Encode must tell of an image.
func refused(i api.Image) api.Errno {
	wrong := i.Base%4096 != 0 || len(i.Devices) != len(i.Bus.Devices) || !numbers(i)
	size, long := 0, false
	for _, g := range i.Regions {
		long = long || len(g.Text) > 1<<20
	}
	for _, c := range i.Channels {
		wrong = wrong || c.Masked
	}
	for _, q := range i.Irqs {
		wrong = wrong || q.Effect != 1
	}
	for _, p := range i.Plans {
		wrong = wrong || len(p.Lanes) != len(i.Plans[0].Lanes)
	}
	switch {
	case wrong:
		return api.ErrField
	case long:
		return api.ErrLong
	}
	size = 160
	list := contents(i)
	for _, s := range list[:7] {
		size += len(s)
	}
	if (size+4095)/4096+len(i.Tables) > 1024 {
		return api.ErrMany
	}
	return api.OK
}

// numbers tells whether each number has its place in the bytes.
func numbers(i api.Image) bool {
	var small, half, none, word []int
	half = append(half, len(i.Bus.Rams), len(i.Bus.Devices), len(i.Subjects), len(i.Devices), len(i.Regions))
	half = append(half, len(i.Channels), len(i.Irqs), len(i.Plans), i.Start)
	none = append(none, i.Master)
	for _, s := range i.Subjects {
		small, none = append(small, s.CPU, s.Rule, s.Vector), append(none, s.To, s.Root)
	}
	for _, p := range i.Devices {
		none = append(none, p.Root)
	}
	for _, c := range i.Channels {
		small, none = append(small, c.Effect, c.Vector), append(none, c.From, c.To)
	}
	for _, q := range i.Irqs {
		small, none = append(small, q.Vector), append(none, q.From, q.To)
	}
	for _, p := range i.Plans {
		half, word = append(half, len(p.Lanes)), append(word, p.Major)
		for _, lane := range p.Lanes {
			half = append(half, len(lane))
			for _, s := range lane {
				none, word = append(none, s.Subject), append(word, s.Ticks)
			}
		}
	}
	return within(small, 0, 255) && within(half, 0, 65535) && within(none, -1, 65534) && within(word, 0, 1<<32-1)
}

func within(list []int, low, high int) bool {
	for _, n := range list {
		if n < low || n > high {
			return false
		}
	}
	return true
}

// wrong is a refusal of the model, which is panicked with.
type wrong struct {
	where api.Where
	why   api.Errno
}

func refuse(section, at int, why api.Errno) { panic(wrong{api.Where{Section: section, At: at}, why}) }

// number is the number that so many bytes are.
func number(b []byte) int {
	return int(binary.LittleEndian.Uint64(append(append([]byte{}, b...), make([]byte, 8)...)))
}

// read is Decode by the chapter's words.
func read(b []byte) (i api.Image, at api.Where, why api.Errno) {
	defer func() {
		if w, ok := recover().(wrong); ok {
			i, at, why = api.Image{}, w.where, w.why
		}
	}()
	readHeader(b)
	readDirectory(b)
	end := 160
	for section := 1; section <= 8; section++ {
		first, length := place(b, section)
		for at := end; at < first; at++ {
			if b[at] != 0 {
				refuse(section, at, api.ErrForm)
			}
		}
		if end = first + length; number(b[24+16*(section-1)+12:][:4]) != int(sum(b[first:end])) {
			refuse(section, first, api.ErrSum)
		}
	}
	return readSections(b), api.Where{}, api.OK
}

func readHeader(b []byte) {
	if len(b) < 160 {
		refuse(0, len(b), api.ErrShort)
	}
	if string(b[:8]) != "BULKHEAD" {
		refuse(0, 0, api.ErrMagic)
	}
	if number(b[8:10]) != 1 {
		refuse(0, 8, api.ErrVersion)
	}
	if number(b[10:12]) != 8 {
		refuse(0, 10, api.ErrForm)
	}
	if number(b[152:156]) != int(sum(b[:152])) {
		refuse(0, 152, api.ErrSum)
	}
	if number(b[156:160]) != 0 {
		refuse(0, 156, api.ErrForm)
	}
	pages := number(b[12:16])
	if pages > 1024 {
		refuse(0, 12, api.ErrMany)
	}
	if len(b) < pages*4096 {
		refuse(0, len(b), api.ErrShort)
	}
	if len(b) > pages*4096 {
		refuse(0, pages*4096, api.ErrTail)
	}
	if number(b[16:24])%4096 != 0 {
		refuse(0, 16, api.ErrField)
	}
}

func readDirectory(b []byte) {
	next := 160
	for section := 1; section <= 8; section++ {
		for next%8 != 0 || section == 8 && next%4096 != 0 {
			next++
		}
		at := 24 + 16*(section-1)
		first, length := place(b, section)
		if number(b[at:at+2]) != section || number(b[at+2:at+4]) != 0 || first != next {
			refuse(0, at, api.ErrForm)
		}
		next += length
		if next > len(b) || section == 8 && next != len(b) {
			refuse(0, at, api.ErrForm)
		}
	}
}

// cursor goes through a section of an image.
type cursor struct {
	b                []byte
	section, at, end int
}

func (c *cursor) wrong(at int) { refuse(c.section, at, api.ErrForm) }

func (c *cursor) take(bytes int) int {
	if c.at+bytes > c.end {
		c.wrong(c.at)
	}
	c.at += bytes
	return number(c.b[c.at-bytes : c.at])
}

func (c *cursor) most(bytes, most int) int {
	at := c.at
	n := c.take(bytes)
	if n > most {
		c.wrong(at)
	}
	return n
}

func (c *cursor) none() int {
	n := c.take(2)
	if n == 65535 {
		return -1
	}
	return n
}

func (c *cursor) zeros(bytes int) { c.most(bytes, 0) }

func (c *cursor) text() string {
	at := c.at
	n := c.most(4, 1<<20)
	if c.at+n > c.end {
		c.wrong(at)
	}
	s := string(c.b[c.at : c.at+n])
	c.at += n
	if c.at%8 != 0 {
		c.zeros(8 - c.at%8)
	}
	return s
}

// spans are so many of them; a list that is not to be there may not be asked
// for its room.
func (c *cursor) spans(n int) (list []api.Range) {
	for range n {
		at := uint64(c.take(8))
		list = append(list, api.Range{At: at, Size: uint64(c.take(8))})
	}
	return list
}

// open begins a section.
func open(b []byte, section int) *cursor {
	first, length := place(b, section)
	return &cursor{b, section, first, first + length}
}

// shut ends it.
func (c *cursor) shut() {
	if c.at != c.end {
		c.wrong(c.at)
	}
}

// rounds calls what reads a row, as often as the section says.
func rounds(b []byte, section int, one func(c *cursor)) {
	c := open(b, section)
	n := c.take(2)
	c.zeros(6)
	for range n {
		one(c)
	}
	c.shut()
}

func readSections(b []byte) (i api.Image) {
	i.Base = uint64(number(b[16:24]))
	c := open(b, 1)
	rams, windows := c.take(2), c.take(2)
	c.zeros(4)
	i.Bus.Rams, i.Bus.Devices = c.spans(rams), c.spans(windows)
	c.shut()
	rounds(b, 2, func(c *cursor) {
		var s api.Tenant
		s.CPU, s.Stopped, s.Rule, s.Vector = c.take(1), c.most(1, 1) == 1, c.take(1), c.take(1)
		s.To, s.Root = c.none(), c.none()
		i.Subjects = append(i.Subjects, s)
	})
	if c := open(b, 3); c.take(2) != windows {
		c.wrong(c.at - 2)
	}
	rounds(b, 3, func(c *cursor) {
		i.Devices = append(i.Devices, api.Port{Root: c.none()})
		c.zeros(6)
	})
	rounds(b, 4, func(c *cursor) {
		var g api.Ground
		g.At, g.Size, g.Fill = uint64(c.take(8)), uint64(c.take(8)), uint8(c.take(1))
		c.zeros(3)
		g.Text = c.text()
		i.Regions = append(i.Regions, g)
	})
	rounds(b, 5, func(c *cursor) {
		i.Channels = append(i.Channels, api.Link{From: c.none(), To: c.none(), Effect: c.take(1), Vector: c.take(1)})
		c.zeros(2)
	})
	rounds(b, 6, func(c *cursor) {
		i.Irqs = append(i.Irqs, api.Link{From: c.none(), To: c.none(), Effect: 1, Vector: c.take(1), Masked: c.most(1, 1) == 1})
		c.zeros(2)
	})
	readPlans(open(b, 7), &i)
	for first, length := place(b, 8); length > 0; first, length = first+4096, length-4096 {
		var table api.Table
		for k := range table {
			table[k] = uint64(number(b[first+8*k:][:8]))
		}
		i.Tables = append(i.Tables, table)
	}
	return i
}

func readPlans(c *cursor, i *api.Image) {
	many := c.take(2)
	lanes := 0
	if many == 0 {
		c.zeros(2)
	} else {
		lanes = c.take(2)
	}
	i.Master, i.Start = c.none(), c.take(2)
	for range many {
		p := api.Schedule{Major: c.take(4)}
		c.zeros(4)
		for range lanes {
			var lane []api.Stint
			n := c.take(2)
			c.zeros(6)
			for range n {
				who := c.none()
				c.zeros(2)
				lane = append(lane, api.Stint{Subject: who, Ticks: c.take(4)})
			}
			p.Lanes = append(p.Lanes, lane)
		}
		i.Plans = append(i.Plans, p)
	}
	c.shut()
}

// unlike tells the first byte in which two rows of bytes differ.
func unlike(got, want []byte) string {
	for k := range min(len(got), len(want)) {
		if got[k] != want[k] {
			return fmt.Sprintf("byte %d is %d, want %d", k, got[k], want[k])
		}
	}
	return fmt.Sprintf("%d bytes, want %d", len(got), len(want))
}

// TestModel: the model is held against itself: what it spells it reads.
func TestModel(t *testing.T) {
	t.Parallel()
	for name, i := range map[string]api.Image{"zero": {}, "small": small()} {
		if got, at, why := read(spelt(i)); why != api.OK || at != (api.Where{}) || !alike(got, i) || refused(i) != api.OK {
			t.Errorf("the model: %s: %v %v", name, at, why)
		}
	}
}

package bundle

import (
	"math"

	"bulkhead/api"
	"bulkhead/pages"
	"bulkhead/word"
)

// layer lays an image's parts down, one behind the other. Without a Writer it
// only counts their bytes: so that an image that is refused for its size takes
// no room.
type layer struct {
	image   api.Image
	out     *word.Writer
	at      int // how many bytes there are
	entries [parts]entry
	why     api.Errno
}

// all lays all parts down.
func (l *layer) all() {
	row := [parts]func(){
		header:   l.room,
		bus:      l.bus,
		subjects: l.subjects,
		ports:    l.ports,
		regions:  l.regions,
		channels: l.channels,
		irqs:     l.irqs,
		plans:    l.plans,
		tables:   l.tables,
	}
	for part, lay := range row {
		l.zeros(begin(part, l.at) - l.at)
		first := l.at
		lay()
		l.entries[part] = entry{number: part, first: first, length: l.at - first}
	}
}

// headed tells all bytes, with the header in its room.
func (l *layer) headed() []byte {
	all := l.out.All()
	w := word.NewWriter()
	w.Bytes([]byte(magic))
	w.Half(version)
	w.Half(sections)
	w.Word(uint32(len(all) / api.Page))
	w.Long(l.image.Base)
	for _, e := range l.entries[bus:] {
		e.sum = word.CRC(e.of(all))
		e.lay(w)
	}
	w.Seal(0)
	w.Word(0)
	copy(all, w.All())
	return all
}

// ask refuses the image, unless all is well. Of two refusals ErrField is told,
// wherever it stands.
func (l *layer) ask(well bool, why api.Errno) {
	if !well && l.why != api.ErrField {
		l.why = why
	}
}

// field refuses the image, if a field of it may not be.
func (l *layer) field(well bool) { l.ask(well, api.ErrField) }

// byte lays down a number that must fit into a Byte.
func (l *layer) byte(n int) {
	l.field(n >= 0 && n <= math.MaxUint8)
	l.at++
	if l.out != nil {
		l.out.Byte(uint8(n))
	}
}

// flag lays down a Byte that is 1 or 0.
func (l *layer) flag(set bool) {
	if set {
		l.byte(1)
		return
	}
	l.byte(0)
}

// half lays down a number that must fit into a Half.
func (l *layer) half(n int) {
	l.field(n >= 0 && n <= math.MaxUint16)
	l.putHalf(uint16(n))
}

// orNone lays down a number, or -1, which wraps round to the Half that stands
// for it.
func (l *layer) orNone(n int) {
	l.field(n >= -1 && n < none)
	l.putHalf(uint16(n))
}

// putHalf lays down a Half.
func (l *layer) putHalf(n uint16) {
	l.at += 2
	if l.out != nil {
		l.out.Half(n)
	}
}

// word lays down a number that must fit into a Word.
func (l *layer) word(n int) {
	l.field(n >= 0 && n <= math.MaxUint32)
	l.at += 4
	if l.out != nil {
		l.out.Word(uint32(n))
	}
}

// long lays down a Long.
func (l *layer) long(n uint64) {
	l.at += 8
	if l.out != nil {
		l.out.Long(n)
	}
}

// zeros lays down so many zeros.
func (l *layer) zeros(n int) {
	for range n {
		l.byte(0)
	}
}

// many lays down how many a list has that stands alone in its section.
func (l *layer) many(n int) {
	l.half(n)
	l.zeros(6)
}

// text lays down a text behind its length, and zeros.
func (l *layer) text(s string) {
	l.ask(len(s) <= api.MaxText, api.ErrLong)
	l.word(len(s))
	l.at += len(s)
	if l.out != nil {
		l.out.Bytes([]byte(s))
	}
	l.zeros(up(l.at, unit) - l.at)
}

// room leaves room for the header: what it tells is known behind all parts.
func (l *layer) room() {
	l.field(l.image.Base%api.Page == 0)
	l.zeros(headerSize)
}

func (l *layer) bus() {
	b := l.image.Bus
	l.half(len(b.Rams))
	l.half(len(b.Devices))
	l.zeros(4)
	l.ranges(b.Rams)
	l.ranges(b.Devices)
}

func (l *layer) ranges(list []api.Range) {
	for _, r := range list {
		l.long(r.At)
		l.long(r.Size)
	}
}

func (l *layer) subjects() {
	l.many(len(l.image.Subjects))
	for _, s := range l.image.Subjects {
		l.byte(s.CPU)
		l.flag(s.Stopped)
		l.byte(s.Rule)
		l.byte(s.Vector)
		l.orNone(s.To)
		l.orNone(s.Root)
	}
}

func (l *layer) ports() {
	l.field(len(l.image.Devices) == len(l.image.Bus.Devices))
	l.many(len(l.image.Devices))
	for _, p := range l.image.Devices {
		l.orNone(p.Root)
		l.zeros(6)
	}
}

func (l *layer) regions() {
	l.many(len(l.image.Regions))
	for _, g := range l.image.Regions {
		l.long(g.At)
		l.long(g.Size)
		l.byte(int(g.Fill))
		l.zeros(3)
		l.text(g.Text)
	}
}

func (l *layer) channels() {
	l.many(len(l.image.Channels))
	for _, c := range l.image.Channels {
		l.field(!c.Masked)
		l.orNone(c.From)
		l.orNone(c.To)
		l.byte(c.Effect)
		l.byte(c.Vector)
		l.zeros(2)
	}
}

func (l *layer) irqs() {
	l.many(len(l.image.Irqs))
	for _, q := range l.image.Irqs {
		l.field(q.Effect == api.ByVector)
		l.orNone(q.From)
		l.orNone(q.To)
		l.byte(q.Vector)
		l.flag(q.Masked)
		l.zeros(2)
	}
}

func (l *layer) plans() {
	lanes := 0
	if len(l.image.Plans) > 0 {
		lanes = len(l.image.Plans[0].Lanes)
	}
	l.half(len(l.image.Plans))
	l.half(lanes)
	l.orNone(l.image.Master)
	l.half(l.image.Start)
	for _, p := range l.image.Plans {
		l.field(len(p.Lanes) == lanes)
		l.word(p.Major)
		l.zeros(4)
		for _, lane := range p.Lanes {
			l.lane(lane)
		}
	}
}

func (l *layer) lane(stints []api.Stint) {
	l.many(len(stints))
	for _, s := range stints {
		l.orNone(s.Subject)
		l.zeros(2)
		l.word(s.Ticks)
	}
}

func (l *layer) tables() {
	for k := range l.image.Tables {
		l.at += api.Page
		if l.out != nil {
			l.out.Bytes(pages.Bytes(l.image.Tables[k]))
		}
	}
}

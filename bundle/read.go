package bundle

import (
	"bulkhead/api"
	"bulkhead/pages"
	"bulkhead/word"
)

// reader takes an image out of its bytes, part by part, and keeps the first
// thing that is wrong.
type reader struct {
	raw     []byte
	image   api.Image
	entries [parts]entry
	part    int
	in      *word.Reader // of the part's bytes alone
	where   api.Where
	why     api.Errno
}

// all takes all parts, until one is refused.
func (r *reader) all() {
	row := [parts]func(){
		header:   r.header,
		bus:      r.bus,
		subjects: r.subjects,
		ports:    r.ports,
		regions:  r.regions,
		channels: r.channels,
		irqs:     r.irqs,
		plans:    r.plans,
		tables:   r.tables,
	}
	r.entries[header].length = min(headerSize, len(r.raw))
	for part, read := range row {
		r.open(part)
		read()
		// What goes beyond the part's end the Reader has refused at its
		// beginning, and stays there.
		r.form(r.in.End() == api.OK, r.in.At())
		if r.why != api.OK {
			return
		}
	}
}

// open begins at a part's first byte. It is a multiple of 8 of the image's
// bytes: so the Reader pads as if it had all of these.
func (r *reader) open(part int) {
	r.part = part
	r.in = word.NewReader(r.entries[part].of(r.raw))
}

// ask refuses the bytes, unless all is well or they are refused already.
func (r *reader) ask(well bool, why api.Errno, section, at int) {
	if !well && r.why == api.OK {
		r.why, r.where = why, api.Where{Section: section, At: at}
	}
}

// form asks for the form of the field that begins at a byte of the part.
func (r *reader) form(well bool, at int) {
	r.ask(well, api.ErrForm, r.part, r.entries[r.part].first+at)
}

// goesOn tells whether nothing is refused so far.
func (r *reader) goesOn() bool { return r.why == api.OK && r.in.Err() == api.OK }

func (r *reader) header() {
	size := len(r.raw)
	if size < headerSize {
		r.ask(false, api.ErrShort, header, size)
		return
	}
	text, number, many := string(r.in.Bytes(len(magic))), r.in.Half(), r.in.Half()
	count, base := r.in.Word(), r.in.Long()
	for part := bus; part < parts; part++ {
		r.entries[part] = readEntry(r.in)
	}
	sum, zero := r.in.Word(), r.in.Word()
	end := int(count) * api.Page
	r.ask(text == magic, api.ErrMagic, header, 0)
	r.ask(number == version, api.ErrVersion, header, atVersion)
	r.ask(many == sections, api.ErrForm, header, atSections)
	r.ask(sum == word.CRC(r.raw[:atSum]), api.ErrSum, header, atSum)
	r.ask(zero == 0, api.ErrForm, header, atZero)
	r.ask(count <= api.MaxImage, api.ErrMany, header, atPages)
	r.ask(size >= end, api.ErrShort, header, size)
	r.ask(size <= end, api.ErrTail, header, end)
	r.ask(base%api.Page == 0, api.ErrField, header, atBase)
	r.image.Base = base
	r.directory()
	r.seals()
}

// directory holds each entry against the one that must stand there.
func (r *reader) directory() {
	end := headerSize
	for part := bus; part < parts && r.why == api.OK; part++ {
		e := r.entries[part]
		must := entry{number: part, first: begin(part, end), length: e.length, sum: e.sum}
		if part == tables {
			must.length = len(r.raw) - must.first
		}
		end = must.end()
		r.ask(e == must && end <= len(r.raw), api.ErrForm, header, atDirectory+entrySize*(part-bus))
	}
}

// seals asks of all sections for the zeros ahead of them, and their sums.
func (r *reader) seals() {
	end := headerSize
	for part := bus; part < parts && r.why == api.OK; part++ {
		e := r.entries[part]
		for at := end; at < e.first; at++ {
			r.ask(r.raw[at] == 0, api.ErrForm, part, at)
		}
		r.ask(word.CRC(e.of(r.raw)) == e.sum, api.ErrSum, part, e.first)
		end = e.end()
	}
}

// half takes a number.
func (r *reader) half() int { return int(r.in.Half()) }

// orNone takes a number, or -1.
func (r *reader) orNone() int {
	n := r.half()
	if n == none {
		return -1
	}
	return n
}

// byte takes a number.
func (r *reader) byte() int { return int(r.in.Byte()) }

// flag takes a Byte that must be 1 or 0.
func (r *reader) flag() bool {
	at := r.in.At()
	n := r.in.Byte()
	r.form(n <= 1, at)
	return n == 1
}

// zeros takes so many bytes that must be 0.
func (r *reader) zeros(n int) {
	at := r.in.At()
	for _, b := range r.in.Bytes(n) {
		r.form(b == 0, at)
	}
}

// many takes how many a list has that stands alone in its section.
func (r *reader) many() int {
	n := r.half()
	r.zeros(6)
	return n
}

// text takes a text behind its length, and zeros.
func (r *reader) text() string {
	at := r.in.At()
	n := int(r.in.Word())
	r.form(n <= api.MaxText && n <= r.in.Left(), at)
	s := string(r.in.Bytes(n))
	r.in.Pad(unit)
	return s
}

// list takes so many things of a kind, if the bytes have them: a number alone
// makes no list longer.
func list[T any](r *reader, many int, one func() T) []T {
	var all []T
	for len(all) < many && r.goesOn() {
		all = append(all, one())
	}
	return all
}

func (r *reader) bus() {
	rams, devices := r.half(), r.half()
	r.zeros(4)
	r.image.Bus.Rams = list(r, rams, r.span)
	r.image.Bus.Devices = list(r, devices, r.span)
}

func (r *reader) span() api.Range {
	return api.Range{At: r.in.Long(), Size: r.in.Long()}
}

func (r *reader) subjects() { r.image.Subjects = list(r, r.many(), r.tenant) }

func (r *reader) tenant() api.Tenant {
	return api.Tenant{
		CPU:     r.byte(),
		Stopped: r.flag(),
		Rule:    r.byte(),
		Vector:  r.byte(),
		To:      r.orNone(),
		Root:    r.orNone(),
	}
}

func (r *reader) ports() {
	many := r.half()
	r.form(many == len(r.image.Bus.Devices), 0)
	r.zeros(6)
	r.image.Devices = list(r, many, r.port)
}

func (r *reader) port() api.Port {
	p := api.Port{Root: r.orNone()}
	r.zeros(6)
	return p
}

func (r *reader) regions() { r.image.Regions = list(r, r.many(), r.ground) }

func (r *reader) ground() api.Ground {
	g := api.Ground{At: r.in.Long(), Size: r.in.Long(), Fill: r.in.Byte()}
	r.zeros(3)
	g.Text = r.text()
	return g
}

func (r *reader) channels() { r.image.Channels = list(r, r.many(), r.channel) }

func (r *reader) channel() api.Link {
	c := api.Link{From: r.orNone(), To: r.orNone(), Effect: r.byte(), Vector: r.byte()}
	r.zeros(2)
	return c
}

func (r *reader) irqs() { r.image.Irqs = list(r, r.many(), r.irq) }

func (r *reader) irq() api.Link {
	q := api.Link{From: r.orNone(), To: r.orNone(), Effect: api.ByVector, Vector: r.byte(), Masked: r.flag()}
	r.zeros(2)
	return q
}

func (r *reader) plans() {
	many := r.half()
	at := r.in.At()
	lanes := r.half()
	r.form(many > 0 || lanes == 0, at)
	r.image.Master = r.orNone()
	r.image.Start = r.half()
	r.image.Plans = list(r, many, func() api.Schedule {
		p := api.Schedule{Major: int(r.in.Word())}
		r.zeros(4)
		p.Lanes = list(r, lanes, r.lane)
		return p
	})
}

func (r *reader) lane() []api.Stint { return list(r, r.many(), r.stint) }

func (r *reader) stint() api.Stint {
	s := api.Stint{Subject: r.orNone()}
	r.zeros(2)
	s.Ticks = int(r.in.Word())
	return s
}

func (r *reader) tables() {
	// The directory has it that the section is whole pages.
	r.image.Tables = list(r, r.in.Left()/api.Page, r.table)
}

func (r *reader) table() api.Table {
	t, _ := pages.Read(r.in.Bytes(api.Page))
	return t
}

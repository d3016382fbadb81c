package bundle

import (
	"bulkhead/api"
	"bulkhead/word"
)

// The parts of an image by their numbers: the header, and its sections.
const (
	header = iota
	bus
	subjects
	ports
	regions
	channels
	irqs
	plans
	tables
	parts // how many there are
)

const (
	magic    = "BULKHEAD"
	version  = 1
	sections = parts - 1
	none     = 0xFFFF // the Half that stands for -1
	unit     = 8      // of all but the tables: where a section may begin
)

// Where in the header its fields stand.
const (
	atVersion   = 8
	atSections  = 10
	atPages     = 12
	atBase      = 16
	atDirectory = 24
	atSum       = 152
	atZero      = 156
	headerSize  = 160
)

// entrySize is how many bytes the directory has for a section.
const entrySize = 16

// entry is what the directory says of a section.
type entry struct {
	number, zero  int
	first, length int
	sum           uint32
}

// end tells the byte behind a section.
func (e entry) end() int { return e.first + e.length }

// of tells a section's bytes among those of an image in which it lies.
func (e entry) of(all []byte) []byte { return all[e.first:e.end()] }

// lay lays an entry down.
func (e entry) lay(w *word.Writer) {
	w.Half(uint16(e.number))
	w.Half(uint16(e.zero))
	w.Word(uint32(e.first))
	w.Word(uint32(e.length))
	w.Word(e.sum)
}

// readEntry takes an entry.
func readEntry(r *word.Reader) entry {
	return entry{
		number: int(r.Half()),
		zero:   int(r.Half()),
		first:  int(r.Word()),
		length: int(r.Word()),
		sum:    r.Word(),
	}
}

// begin tells where a part begins, if the one ahead of it ends at a byte.
func begin(part, end int) int {
	if part == tables {
		return up(end, api.Page)
	}
	return up(end, unit)
}

// up tells the next multiple of align. No image is so long that there is none.
func up(at, align int) int {
	n, _ := word.Up(uint64(at), uint64(align))
	return int(n)
}

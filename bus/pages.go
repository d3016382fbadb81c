package bus

import (
	"bytes"

	"bulkhead/api"
)

// page is the bytes of one page.
type page [api.Page]byte

// pages are the bytes of a machine, by the number of their page: those pages
// alone that hold a byte that is not 0. So a large RAM costs what is laid
// into it, and how many pages there are can be told without a look at them.
type pages map[uint64]*page

// read fills b, which holds zeros, with the bytes from at on.
func (p pages) read(at uint64, b []byte) {
	for len(b) > 0 {
		n := within(at, len(b))
		if own, ok := p[at/api.Page]; ok {
			copy(b[:n], own[at%api.Page:])
		}
		at, b = at+uint64(n), b[n:]
	}
}

// lay lays bytes down from at on.
func (p pages) lay(at uint64, b []byte) {
	for len(b) > 0 {
		n := within(at, len(b))
		p.layWithin(at, b[:n])
		at, b = at+uint64(n), b[n:]
	}
}

// fill lays one value into n bytes from at on. Page by page: a row of all n
// would take as much memory as the machine.
func (p pages) fill(at uint64, n int, value uint8) {
	row := bytes.Repeat([]byte{value}, min(n, api.Page))
	for n > 0 {
		size := within(at, n)
		p.layWithin(at, row[:size])
		at, n = at+uint64(size), n-size
	}
}

// layWithin lays bytes down that all lie in one page.
func (p pages) layWithin(at uint64, b []byte) {
	number, none := at/api.Page, zeros(b)
	own, ok := p[number]
	if !ok {
		if none {
			return
		}
		own = new(page)
		p[number] = own
	}
	copy(own[at%api.Page:], b)
	if none && *own == (page{}) {
		delete(p, number)
	}
}

// twin makes the same pages once more.
func (p pages) twin() pages {
	t := make(pages, len(p))
	for number, own := range p {
		other := *own
		t[number] = &other
	}
	return t
}

// within tells how many of n bytes from at on lie in at's page.
func within(at uint64, n int) int { return min(n, api.Page-int(at%api.Page)) }

// zeros tells whether all bytes are 0.
func zeros(b []byte) bool {
	for _, x := range b {
		if x != 0 {
			return false
		}
	}
	return true
}

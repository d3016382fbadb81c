package check

import (
	"slices"
	"strconv"

	"bulkhead/api"
)

// fault is something that is wrong, and where.
type fault struct {
	place int
	why   api.Errno
}

func (f *fault) Error() string { return "at byte " + strconv.Itoa(f.place) + ": " + f.why.Error() }

// Unwrap is the number.
func (f *fault) Unwrap() error { return f.why }

// group keeps, of all that was found wrong in a group, what is told.
type group struct {
	order []api.Errno // which of two at one place is told
	first *fault
}

// inOrder begins a group whose numbers are named in this order.
func inOrder(numbers ...api.Errno) *group { return &group{order: numbers} }

// leads tells whether something wrong there goes ahead of what was found.
func (g *group) leads(place int, why api.Errno) bool {
	if g.first == nil {
		return true
	}
	if place != g.first.place {
		return place < g.first.place
	}
	return slices.Index(g.order, why) < slices.Index(g.order, g.first.why)
}

// wrong takes on what may be wrong at a place, if it is.
func (g *group) wrong(place int, why api.Errno, is bool) {
	if is && g.leads(place, why) {
		g.first = &fault{place: place, why: why}
	}
}

// found is what is told; nil, if nothing is wrong.
func (g *group) found() error {
	if g.first == nil {
		return nil
	}
	return g.first
}

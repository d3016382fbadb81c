package boot

import (
	"strconv"

	"bulkhead/api"
)

// Refusal says why bytes are no image that may run: the section, the byte or
// the row, the number.
type Refusal struct {
	Section, At int
	Why         api.Errno
}

// Error tells the refusal in words.
func (r *Refusal) Error() string {
	return "section " + strconv.Itoa(r.Section) + " at " + strconv.Itoa(r.At) + ": " + r.Why.Error()
}

// Unwrap tells the number.
func (r *Refusal) Unwrap() error { return r.Why }

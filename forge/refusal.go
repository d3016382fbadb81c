package forge

import (
	"errors"
	"strconv"

	"bulkhead/api"
	"bulkhead/syntax"
)

// Classes of refusals.
const (
	TooLong = 1 + iota
	Syntax
	IllFormed
	NoSpace
)

// Refusal says why a text is no image: the class, the place, the number.
type Refusal struct {
	Class int
	Place api.Place
	Why   api.Errno
}

// Error tells the refusal in words.
func (r *Refusal) Error() string {
	return strconv.Itoa(r.Place.Line) + ":" + strconv.Itoa(r.Place.Column) + ": " + className(r.Class) + ": " + r.Why.Error()
}

// Unwrap tells the number.
func (r *Refusal) Unwrap() error { return r.Why }

func className(class int) string {
	switch class {
	case TooLong:
		return "the text is too long"
	case Syntax:
		return "the text is no policy"
	case IllFormed:
		return "the policy is ill formed"
	case NoSpace:
		return "the policy finds no space"
	}
	return "refused"
}

// refused is a refusal as far as a stage knows it, its byte and its number, or
// none.
func refused(at int, why api.Errno) *Refusal {
	if why == api.OK {
		return nil
	}
	return &Refusal{Place: api.Place{At: at}, Why: why}
}

// in is a stage's refusal with what the text tells of it: its class, its line
// and column.
func (r *Refusal) in(src []byte) *Refusal {
	return &Refusal{Class: r.class(src), Place: syntax.At(src, r.Place.At), Why: r.Why}
}

// class tells a refusal's class. The numbers of a text that is no policy and of
// one that finds no room have no other stage; ErrLong is a name's, too, so that
// it says nothing of the text.
func (r *Refusal) class(src []byte) int {
	switch {
	case len(src) > api.MaxText:
		return TooLong
	case errors.Is(r, api.ErrSyntax), errors.Is(r, api.ErrDeep):
		return Syntax
	case errors.Is(r, api.ErrSpace):
		return NoSpace
	}
	return IllFormed
}

package walk

import "bulkhead/api"

// The bits of an entry.
const (
	present = 1 << iota
	write
	exec
	big
)

// frame is the bits of the address of a page.
const frame = api.MaxPhys - api.Page

// Entry tells what an entry of a level says.
func Entry(e uint64, level int) (api.Entry, api.Errno) {
	switch {
	case level < 0 || level > 2:
		return api.Entry{}, api.ErrArg
	case e&present == 0:
		return api.Entry{}, api.ErrAbsent
	case !sound(e, level):
		return api.Entry{}, api.ErrTable
	}
	return api.Entry{
		Frame: e & frame,
		Table: level == 0 || level == 1 && e&big == 0,
		Big:   e&big != 0,
		Write: e&write != 0,
		Exec:  e&exec != 0,
	}, api.OK
}

// sound tells whether an entry that is present may stand in a table of a level.
func sound(e uint64, level int) bool {
	switch {
	case e&^(present|write|exec|big|frame) != 0:
		return false
	case level == 0:
		return e&(write|exec|big) == 0
	case level == 2:
		return e&big == 0
	case e&big == 0:
		return e&(write|exec) == 0
	}
	return e&frame%api.Big == 0
}

// Make tells the entry that says this.
func Make(e api.Entry, level int) (uint64, api.Errno) {
	raw := present | e.Frame | bit(e.Write, write) | bit(e.Exec, exec) | bit(e.Big, big)
	said, why := Entry(raw, level)
	switch {
	case why == api.ErrArg:
		return 0, api.ErrArg
	case why != api.OK || said != e:
		// Each thing that may be said has bits of its own: what raw does not
		// say, no entry says.
		return 0, api.ErrTable
	}
	return raw, api.OK
}

// bit tells a bit where it is set, else 0.
func bit(set bool, b uint64) uint64 {
	if set {
		return b
	}
	return 0
}

// pages tells how many pages an entry of a level stands for; of level -1, how
// many a root does.
func pages(level int) int { return 1 << (9 * (2 - level)) }

// reach tells how many bytes an entry of a level stands for.
func reach(level int) uint64 { return api.Page * uint64(pages(level)) }

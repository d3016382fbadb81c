package kernel

import (
	"bulkhead/api"
	"bulkhead/lanes"
)

// nobody is the number of a subject, and of a plan, that there isn't.
const nobody = -1

// timetable tells whose turn it is. A Kernel that is down has one as well as
// one that is up: without plans, at nobody's.
type timetable struct {
	plans  []api.Schedule
	plan   int // the active one
	asked  int // the one that was asked for last
	offset int
	ticks  uint64 // since boot
}

// Plan tells the active plan; -1: down.
func (t *timetable) Plan() int { return t.plan }

// Offset tells the offset in the major frame.
func (t *timetable) Offset() int { return t.offset }

// Clock tells the ticks since boot.
func (t *timetable) Clock() uint64 { return t.ticks }

// Current tells the subject that is current on a CPU; -1: nobody.
func (t *timetable) Current(cpu int) int {
	who, _ := t.slot(cpu)
	return who
}

// slot tells who is current on a CPU, and how many ticks its slot still has.
func (t *timetable) slot(cpu int) (int, int) {
	if !among(t.plan, len(t.plans)) || !among(cpu, api.MaxCPUs) {
		return nobody, 0
	}
	p := t.plans[t.plan]
	return lanes.At(p.Lanes[cpu], p.Major, t.offset)
}

// pass lets so many ticks go by. Behind the first wrap nobody asks for another
// plan any more, so that one plan runs through all ticks that are left then.
func (t *timetable) pass(n uint64) {
	t.ticks += n
	left := uint64(t.plans[t.plan].Major - t.offset)
	if n < left {
		t.offset += int(n)
		return
	}
	t.plan = t.asked
	t.offset = int((n - left) % uint64(t.plans[t.plan].Major))
}

package lanes

import "bulkhead/api"

// row is a slot row that is being made, from tick 0 on.
type row []api.Slot

// add has a subject run for so many ticks more; the last slot grows, if it is
// that subject's.
func (r *row) add(subject string, ticks int) {
	if ticks == 0 {
		return
	}
	from, last := r.end(), len(*r)-1
	if last >= 0 && (*r)[last].Subject == subject {
		(*r)[last].To += ticks
		return
	}
	*r = append(*r, api.Slot{Subject: subject, From: from, To: from + ticks})
}

// end tells how many ticks the row has by now.
func (r *row) end() int {
	if len(*r) == 0 {
		return 0
	}
	return (*r)[len(*r)-1].To
}

// inTurn has runs and idles run one behind the other.
func inTurn(major int, runs []api.Run) row {
	var r row
	for _, run := range runs {
		r.add(run.Subject, int(run.Budget))
	}
	r.add("", major-r.end())
	return r
}

// length tells how many ticks a slot row has; of a list that is none: 0.
func length(slots []api.Slot) int {
	end := 0
	for i, s := range slots {
		if s.From != end || s.To <= end || i > 0 && s.Subject == slots[i-1].Subject {
			return 0
		}
		end = s.To
	}
	return end
}

// Sched tells who runs at a tick of a slot row, and for how many ticks more.
func Sched(slots []api.Slot, o int) (string, int) {
	ticks := length(slots)
	if ticks == 0 {
		return "", 0
	}
	o = max(o, 0) % ticks
	i := 0
	for slots[i].To <= o {
		i++
	}
	return slots[i].Subject, slots[i].To - o
}

// Budget tells how many ticks a subject has.
func Budget(slots []api.Slot, subject string) int {
	sum := 0
	for _, s := range slots {
		if s.Subject == subject && 0 <= s.From && s.From < s.To && s.To <= api.MaxMajor {
			sum += s.To - s.From
		}
	}
	return sum
}

// Share tells which part of the ticks a subject has.
func Share(slots []api.Slot, subject string) float64 {
	ticks := length(slots)
	if ticks == 0 {
		return 0
	}
	return float64(Budget(slots, subject)) / float64(ticks)
}

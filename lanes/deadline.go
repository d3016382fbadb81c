package lanes

import (
	"cmp"
	"container/heap"
	"slices"

	"bulkhead/api"
)

// job is what a need wants in one of its periods.
type job struct {
	need         int
	release, due int
	left         int
}

// queue is a heap of released jobs, the one that runs next on top.
type queue []job

func (q queue) Len() int      { return len(q) }
func (q queue) Swap(i, j int) { q[i], q[j] = q[j], q[i] }
func (q queue) Less(i, j int) bool {
	if q[i].due != q[j].due {
		return q[i].due < q[j].due
	}
	return q[i].need < q[j].need
}

// Push is container/heap's: it lays a job behind the others.
func (q *queue) Push(x any) { *q = append(*q, x.(job)) }

// Pop is container/heap's: it takes the job behind the others away.
func (q *queue) Pop() any {
	last := len(*q) - 1
	j := (*q)[last]
	*q = (*q)[:last]
	return j
}

// jobs tells all jobs of the needs, by the ticks at which they are released.
func jobs(major int, needs []api.Run) []job {
	var all []job
	for i, n := range needs {
		period := int(n.Period)
		for t := 0; t < major; t += period {
			all = append(all, job{need: i, release: t, due: t + period, left: int(n.Budget)})
		}
	}
	slices.SortFunc(all, func(a, b job) int { return cmp.Compare(a.release, b.release) })
	return all
}

// byDeadline has of the jobs that are released and not done the one run that
// is due first. It goes on by stretches of ticks, not by ticks: within one no
// job is released or done, so that the job on top stays there.
func byDeadline(major int, needs []api.Run) row {
	var r row
	var waiting queue
	coming := jobs(major, needs)
	for now := 0; now < major; now = r.end() {
		for len(coming) > 0 && coming[0].release == now {
			heap.Push(&waiting, coming[0])
			coming = coming[1:]
		}
		next := major
		if len(coming) > 0 {
			next = coming[0].release
		}
		if len(waiting) == 0 {
			r.add("", next-now)
			continue
		}
		first := &waiting[0]
		ticks := min(first.left, next-now)
		r.add(needs[first.need].Subject, ticks)
		first.left -= ticks
		if first.left == 0 {
			heap.Pop(&waiting)
		}
	}
	return r
}

package fleet

import (
	"runtime"
	"slices"
	"strconv"
	"strings"
	"sync"
	"sync/atomic"
	"testing"

	"bulkhead/api"
)

// mark makes a policy's text be told as these lines, as if it had been compiled
// already: who compiles it again gives himself away.
func mark(f *Fleet, policy, lines string) {
	p, _ := f.store.find([]byte(policy))
	p.once.Do(func() { p.head = lines })
}

// A text that was compiled is not compiled again: by no worker, in no later Serve.
func TestCompiledOnce(t *testing.T) {
	f := begin(t, 8)
	mark(f, tiny, "marked\n")
	jobs := append(slices.Repeat([]Job{job(tiny, "tick 1")}, 40), job("system", ""))
	want := append(slices.Repeat([][]byte{[]byte("marked\n")}, 40), []byte("class 2 refused 60 at 1:7\n"))
	var all sync.WaitGroup
	for range 8 {
		all.Go(func() {
			holdServe(t, f, jobs, want)
			holdServe(t, f, jobs, want)
		})
	}
	all.Wait()
	holdServe(t, begin(t, 8), jobs, alone(jobs))
}

// While a text is being compiled, others that need it wait, and take what comes of
// it; those that don't need it go on.
func TestCompiledByOne(t *testing.T) {
	f := begin(t, 4)
	p, _ := f.store.find([]byte(tiny))
	jobs := slices.Repeat([]Job{job(tiny, "tick 1")}, 6)
	want := slices.Repeat([][]byte{[]byte("marked\n")}, 6)
	other := []Job{job("system", "")}
	var all sync.WaitGroup
	p.once.Do(func() {
		for range 3 {
			all.Go(func() { holdServe(t, f, jobs, want) })
		}
		for f.Served() < 18 {
			runtime.Gosched()
		}
		holdServe(t, f, other, alone(other))
		p.head = "marked\n"
	})
	all.Wait()
}

// What came of a text stays, also if it was refused.
func TestKept(t *testing.T) {
	f := begin(t, 2)
	jobs := []Job{job(tiny, ""), job("system", "")}
	holdServe(t, f, jobs, alone(jobs))
	for _, j := range jobs {
		p, fresh := f.store.find(j.Policy)
		if fresh || p.head == "" {
			t.Fatalf("P20.3: %q is not kept", j.Policy)
		}
		p.head = "again\n"
	}
	holdServe(t, f, jobs, [][]byte{[]byte("again\n"), []byte("again\n")})
}

// P20.5: several Serves at a time, of one fleet and of two.
func TestTogether(t *testing.T) {
	jobs := many()
	want := alone(jobs)
	was := runtime.NumGoroutine()
	one, two := begin(t, 3), begin(t, 16)
	var all sync.WaitGroup
	for n := range 12 {
		all.Go(func() {
			shift := n % len(jobs)
			mine := slices.Concat(jobs[shift:], jobs[:shift])
			expect := slices.Concat(want[shift:], want[:shift])
			holdServe(t, one, mine, expect)
			if n%2 == 0 {
				holdServe(t, two, mine[:5], expect[:5])
			}
		})
	}
	all.Wait()
	holdCounts(t, one, unlike(jobs...), 12*len(jobs))
	if two.Served() != 30 {
		t.Errorf("P20.6: the other fleet served %d", two.Served())
	}
	holdGoroutines(t, was)
}

// The counts only grow, and tell of no Serve that is refused.
func TestCountsMeanwhile(t *testing.T) {
	f := begin(t, 2)
	var over atomic.Bool
	var watch, all sync.WaitGroup
	watch.Go(func() {
		built, served := 0, 0
		for !over.Load() {
			b, s := f.Built(), f.Served()
			if b < built || s < served || b > 3 || s > 36 {
				t.Errorf("P20.3: built %d behind %d, served %d behind %d", b, built, s, served)
			}
			built, served = b, s
			runtime.Gosched()
		}
	})
	for range 6 {
		all.Go(func() {
			jobs := []Job{job(tiny, ""), job("system", ""), job("", "")}
			holdServe(t, f, jobs, alone(jobs))
			if out, why := f.Serve(make([]Job, 257)); len(out) != 0 || why != api.ErrMany {
				t.Errorf("P20.2: %v", why)
			}
			holdServe(t, f, jobs, alone(jobs))
		})
	}
	all.Wait()
	over.Store(true)
	watch.Wait()
	holdCounts(t, f, 3, 36)
}

// A Stop that comes when a Serve has begun changes nothing of its answer.
func TestStopMeanwhile(t *testing.T) {
	var jobs []Job
	for n := range 60 {
		jobs = append(jobs, job(family(1+n%6), strings.Repeat("tick "+strconv.Itoa(n)+"\n", 50)))
	}
	want := alone(jobs)
	for _, workers := range []int{1, 2, 7} {
		f := begin(t, workers)
		was := runtime.NumGoroutine()
		var all sync.WaitGroup
		all.Go(func() { holdServe(t, f, jobs, want) })
		// Serve counts its jobs when nothing refuses them any more, and when its
		// policies are counted.
		for f.Served() == 0 {
			runtime.Gosched()
		}
		f.Stop()
		holdRefused(t, f, jobs, api.ErrDown)
		all.Wait()
		holdRefused(t, f, jobs, api.ErrDown)
		holdCounts(t, f, 6, 60)
		holdGoroutines(t, was)
	}
}

// Whoever comes with Stop at once: each Serve is whole, or refused whole.
func TestStopAtOnce(t *testing.T) {
	jobs := []Job{job(tiny, "tick 1"), job("system", "")}
	for range 200 {
		f := begin(t, 3)
		var whole atomic.Int64
		var all sync.WaitGroup
		for range 3 {
			all.Go(func() {
				out, why := f.Serve(jobs)
				switch {
				case why == api.OK && len(out) == 2 && string(out[0]) == "built 1 pages at 0x0\nok\n" && string(out[1]) == "class 2 refused 60 at 1:7\n":
					whole.Add(1)
				case why != api.ErrDown || len(out) != 0:
					t.Errorf("P20.4: %q, %v", out, why)
				}
			})
			all.Go(f.Stop)
		}
		all.Wait()
		holdCounts(t, f, 2*min(1, int(whole.Load())), 2*int(whole.Load()))
		holdRefused(t, f, jobs, api.ErrDown)
	}
}

func TestStop(t *testing.T) {
	one, two := begin(t, 1), begin(t, 1)
	holdServe(t, one, three(), alone(three()))
	for range 3 {
		one.Stop()
		holdRefused(t, one, three(), api.ErrDown)
		holdRefused(t, one, nil, api.ErrDown)
		holdCounts(t, one, 2, 3)
	}
	// The other has heard nothing of it.
	holdCounts(t, two, 0, 0)
	holdServe(t, two, three(), alone(three()))
	holdCounts(t, two, 2, 3)
}

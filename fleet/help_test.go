package fleet

import (
	"bytes"
	"runtime"
	"strings"
	"testing"
	"time"

	"bulkhead/api"
	"bulkhead/console"
	"bulkhead/forge"
)

// tiny is a policy whose image is one page.
const tiny = "system a { ram 0 size 64K; plan p major 1 { } start p; }"

// job is a job of these texts.
func job(policy, script string) Job {
	return Job{Policy: []byte(policy), Script: []byte(script)}
}

// family is Family(n).
func family(n int) string { return string(forge.Family(n)) }

// three are the chapter's three jobs, two of them of one policy.
func three() []Job {
	return []Job{
		job(family(2), "do s.0 fetch 0x1000 1\ntick 10\ndo s.0 wait"),
		job(family(1), ""),
		job(family(2), "do s.1 load 0x5000 4\ndo s.0 poll 1"),
	}
}

// many are jobs of all kinds: of each class of refusals, with scripts that are
// refused, that are too long, that fault; of 10 unlike policies.
func many() []Job {
	long := strings.Repeat("#", api.MaxText+1)
	return []Job{
		{},
		job(tiny, ""),
		job(tiny, "tick 1"),
		job(tiny+" ", "tick 1"),
		job("system", "tick 1"),
		job("system", "x"),
		job(long, "tick 1"),
		job(long+"#", "tick 1"),
		job("system a { region r size 4K; region r size 8K; }", ""),
		job("\n system a { plan p major 1 { } start p; }", "tick"),
		job(family(1), "tick 1\nx"),
		job(family(1), long),
		job(family(1), long[:api.MaxText]),
		job(family(3), "do s.2 wait\ndo s.2 wait\nirq rx\ndo s.0 poll 62\ntick 640\ndo s.0 status"),
		job(family(3), "do s.0 store 0x10ffc 8 0x1122334455667788\ndo s.0 load 0x10fff 2\ndo s.3 wait"),
		job(family(3), "do s.0 store 0x10ffc 8 0x1122334455667788\ndo s.0 load 0x10fff 2\ndma disk load 0x3fff 1"),
		job(family(3), "do s.0 load 0x10fff 2\ndo s.1 load 0x5000 4\ndo s.0 poll 1"),
		{Policy: forge.Family(1)},
		{Script: []byte("tick 1")},
	}
}

// unlike tells how many unlike policies jobs have.
func unlike(jobs ...Job) int {
	met := map[string]bool{}
	for _, j := range jobs {
		met[string(j.Policy)] = true
	}
	return len(met)
}

// begin is a new fleet.
func begin(t testing.TB, workers int) *Fleet {
	t.Helper()
	f, why := New(workers)
	if f == nil || why != api.OK {
		t.Fatalf("P20.1: New(%d): %v", workers, why)
	}
	return f
}

// alone is what console.Run answers of each job.
func alone(jobs []Job) [][]byte {
	var out [][]byte
	for _, j := range jobs {
		out = append(out, console.Run(j.Policy, j.Script))
	}
	return out
}

// holdServe holds what a fleet answers of jobs. Errorf alone: it is called by many
// goroutines.
func holdServe(t *testing.T, f *Fleet, jobs []Job, want [][]byte) {
	t.Helper()
	out, why := f.Serve(jobs)
	if why != api.OK || len(out) != len(want) {
		t.Errorf("P20.2: %d jobs: %d answers, %v", len(jobs), len(out), why)
		return
	}
	for n := range want {
		if !bytes.Equal(out[n], want[n]) {
			t.Errorf("P20.2: job %d: %.200q, want %.200q", n, out[n], want[n])
		}
	}
}

// holdRefused holds that a fleet refuses jobs, and that nothing is counted.
func holdRefused(t *testing.T, f *Fleet, jobs []Job, want api.Errno) {
	t.Helper()
	built, served := f.Built(), f.Served()
	if out, why := f.Serve(jobs); why != want || len(out) != 0 {
		t.Errorf("P20.2: %d jobs: %d answers, %v, want %v", len(jobs), len(out), why, want)
	}
	holdCounts(t, f, built, served)
}

// holdCounts holds what a fleet has counted.
func holdCounts(t *testing.T, f *Fleet, built, served int) {
	t.Helper()
	if f.Built() != built || f.Served() != served {
		t.Errorf("P20.3: built %d, served %d, want %d, %d", f.Built(), f.Served(), built, served)
	}
}

// holdGoroutines holds that no more goroutines go on than there were. One that has
// told its end may need a moment to be gone.
func holdGoroutines(t *testing.T, was int) {
	t.Helper()
	for n := 0; runtime.NumGoroutine() > was && n < 200; n++ {
		time.Sleep(5 * time.Millisecond)
	}
	if n := runtime.NumGoroutine(); n > was {
		t.Errorf("P20.2: %d goroutines go on", n-was)
	}
}

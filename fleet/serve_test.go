package fleet

import (
	"bytes"
	"runtime"
	"slices"
	"strconv"
	"testing"

	"bulkhead/api"
)

func TestNew(t *testing.T) {
	for _, n := range []int{0, -1, 17, -1 << 63, 1<<63 - 1, 1 << 32, 1<<32 + 1} {
		if f, why := New(n); f != nil || why != api.ErrArg {
			t.Errorf("P20.1: New(%d): %v, %v", n, f, why)
		}
	}
	for n := 1; n <= api.MaxWorkers; n++ {
		holdCounts(t, begin(t, n), 0, 0)
	}
}

func TestChapterRuns(t *testing.T) {
	want := alone(three())
	for _, n := range []int{1, 3, 16} {
		f := begin(t, n)
		holdServe(t, f, nil, nil)
		holdServe(t, f, []Job{}, nil)
		holdCounts(t, f, 0, 0)
		holdServe(t, f, three(), want)
		holdCounts(t, f, 2, 3)
		holdServe(t, f, three(), want)
		holdCounts(t, f, 2, 6)
		holdRefused(t, f, make([]Job, 257), api.ErrMany)
		f.Stop()
		holdRefused(t, f, three(), api.ErrDown)
	}
}

func TestExamples(t *testing.T) {
	f := begin(t, 4)
	out, why := f.Serve([]Job{job(family(1), ""), job(family(1), "tick 1")})
	if why != api.OK || len(out) != 2 || string(out[1]) != string(out[0])+"ok\n" || bytes.Count(out[0], []byte("\n")) != 1 {
		t.Errorf("P20.2: %q, %v", out, why)
	}
	holdCounts(t, f, 1, 2)
	holdServe(t, f, []Job{job(tiny, "tick 1"), job("system", "")}, [][]byte{[]byte("built 1 pages at 0x0\nok\n"), []byte("class 2 refused 60 at 1:7\n")})
	holdServe(t, f, []Job{job(tiny, "tick 1\ntock")}, [][]byte{[]byte("built 1 pages at 0x0\nscript refused 190 at 2\n")})
	holdCounts(t, f, 3, 5)
	f.Stop()
	f.Stop()
}

// Whatever the number of workers, and however often.
func TestAllWorkers(t *testing.T) {
	jobs := many()
	want := alone(jobs)
	for n := 1; n <= api.MaxWorkers; n++ {
		f := begin(t, n)
		was := runtime.NumGoroutine()
		for round := 1; round < 4; round++ {
			holdServe(t, f, jobs, want)
			holdCounts(t, f, unlike(jobs...), round*len(jobs))
			holdGoroutines(t, was)
		}
		slices.Reverse(jobs)
		slices.Reverse(want)
	}
}

func TestHowManyJobs(t *testing.T) {
	var jobs []Job
	for n := range api.MaxJobs {
		jobs = append(jobs, job(tiny, "tick "+strconv.Itoa(n)+"\n#"))
	}
	f := begin(t, 5)
	for _, n := range []int{1, 4, 5, 6, 255, 256} {
		was := f.Served()
		holdServe(t, f, jobs[:n], alone(jobs[:n]))
		holdCounts(t, f, 1, was+n)
	}
	for _, n := range []int{1, 44, 1000} {
		more := append(slices.Clone(jobs), make([]Job, n)...)
		holdRefused(t, f, more, api.ErrMany)
		holdRefused(t, f, slices.Repeat([]Job{job(family(2), "")}, 256+n), api.ErrMany)
	}
	f.Stop()
	holdRefused(t, f, make([]Job, 257), api.ErrDown)
	holdRefused(t, f, nil, api.ErrDown)
}

// What is refused is no text that was handed in: it counts when it comes again.
func TestRefusedCountsNothing(t *testing.T) {
	f := begin(t, 2)
	holdRefused(t, f, slices.Repeat([]Job{job(tiny, "")}, 257), api.ErrMany)
	holdCounts(t, f, 0, 0)
	holdServe(t, f, []Job{job(tiny, "")}, alone([]Job{job(tiny, "")}))
	holdCounts(t, f, 1, 1)
}

// What is unlike by a byte is unlike, whether it is taken or not.
func TestBuilt(t *testing.T) {
	f := begin(t, 3)
	count, served := 0, 0
	for _, p := range []string{"", " ", "\x00", "\x00\x00", "system", "system\n", tiny, tiny + "\n", "\n" + tiny, tiny + "#", "\xff", "\xfe"} {
		count++
		for range 2 {
			served += 2
			jobs := []Job{job(p, ""), job(p, "x")}
			holdServe(t, f, jobs, alone(jobs))
			holdCounts(t, f, count, served)
		}
	}
	holdServe(t, f, []Job{{}, {Policy: []byte{}}}, alone([]Job{{}, {}}))
	holdCounts(t, f, count, served+2)
}

// spare is bytes with room behind them, which is filled.
func spare(b []byte) []byte {
	out := append(bytes.Clone(b), bytes.Repeat([]byte{0xa5}, 64)...)
	return out[:len(b)]
}

// scribble changes each byte, the spare room's too.
func scribble(b []byte) {
	b = b[:cap(b)]
	for n := range b {
		b[n] ^= 0x5a
	}
}

// What is handed in is not changed, and not kept.
func TestHandedIn(t *testing.T) {
	f := begin(t, 4)
	want := alone(many())
	for range 2 {
		var jobs []Job
		for _, j := range many() {
			jobs = append(jobs, Job{Policy: spare(j.Policy), Script: spare(j.Script)})
		}
		room := slices.Repeat([]Job{job("a", "b")}, len(jobs)+3)
		copy(room, jobs)
		holdServe(t, f, room[:len(jobs)], want)
		for n, j := range many() {
			for _, p := range [][2][]byte{{room[n].Policy, j.Policy}, {room[n].Script, j.Script}} {
				if whole := p[0][:len(p[0])+64]; !bytes.Equal(p[0], p[1]) || bytes.Count(whole[len(p[0]):], []byte{0xa5}) != 64 {
					t.Errorf("R2: job %d was changed", n)
				}
				scribble(p[0])
			}
		}
		for _, j := range room[len(jobs):] {
			if string(j.Policy) != "a" || string(j.Script) != "b" {
				t.Errorf("R2: the room behind the jobs was changed")
			}
		}
		clear(room)
		holdCounts(t, f, unlike(many()...), f.Served())
	}
	holdServe(t, f, many(), want)
	holdCounts(t, f, unlike(many()...), 3*len(want))
}

// Each answer is memory of its own.
func TestAnswersShareNothing(t *testing.T) {
	f := begin(t, 4)
	jobs := append(many(), many()...)
	want := alone(jobs)
	out, _ := f.Serve(jobs)
	again, _ := f.Serve(jobs)
	for n := range out {
		scribble(out[n])
		out[n] = nil
		for m := n + 1; m < len(out); m++ {
			if !bytes.Equal(out[m], want[m]) {
				t.Fatalf("R2: answer %d was changed by %d", m, n)
			}
		}
	}
	for n := range again {
		if !bytes.Equal(again[n], want[n]) {
			t.Errorf("R2: a later Serve's answer %d was changed", n)
		}
	}
	holdServe(t, f, jobs, want)
}

package lanes

import (
	"fmt"
	"math/rand"
	"slices"
	"testing"

	"bulkhead/api"
)

// chapterJob is a job as the chapter tells it.
type chapterJob struct {
	need               int
	release, due, left uint64
}

// chapterRefusal tells the refusal of a lane's runs by the chapter's words.
func chapterRefusal(major uint64, l api.Lane) (int, api.Errno) {
	if major < 1 || major > 65536 {
		return -1, api.ErrMajor
	}
	together := uint64(0)
	for i, r := range l.Runs {
		if r.Budget == 0 || r.Budget > major {
			return i, api.ErrBudget
		}
		together += r.Budget
		if !l.Needs {
			if together > major {
				return i, api.ErrDemand
			}
			continue
		}
		if r.Subject == "" {
			return i, api.ErrName
		}
		if r.Period == 0 || r.Period > major || major%r.Period != 0 || r.Period < r.Budget {
			return i, api.ErrPeriod
		}
		for k := r.Period; k < major; k += r.Period {
			together += r.Budget
		}
		if together > major {
			return i, api.ErrDemand
		}
	}
	return 0, api.OK
}

// chapterTicks tells who runs at each tick of a lane that is not refused, all
// jobs gone through at each of them.
func chapterTicks(major uint64, l api.Lane) []string {
	ticks := make([]string, major)
	if !l.Needs {
		t := 0
		for _, r := range l.Runs {
			for range r.Budget {
				ticks[t] = r.Subject
				t++
			}
		}
		return ticks
	}
	var all []*chapterJob
	for i, r := range l.Runs {
		for t := uint64(0); t < major; t += r.Period {
			all = append(all, &chapterJob{i, t, t + r.Period, r.Budget})
		}
	}
	for t := range ticks {
		var next *chapterJob
		for _, j := range all {
			if j.release > uint64(t) || j.left == 0 {
				continue
			}
			if next == nil || j.due < next.due || j.due == next.due && j.need < next.need {
				next = j
			}
		}
		if next != nil {
			next.left--
			ticks[t] = l.Runs[next.need].Subject
		}
	}
	return ticks
}

// slotsOf puts neighbours of one subject together.
func slotsOf(ticks []string) []api.Slot {
	var out []api.Slot
	for t, s := range ticks {
		if t == 0 || ticks[t-1] != s {
			out = append(out, api.Slot{Subject: s, From: t})
		}
		out[len(out)-1].To = t + 1
	}
	return out
}

// ticksOf tells who runs at each tick of slots.
func ticksOf(slots []api.Slot) []string {
	var out []string
	for _, s := range slots {
		for range s.To - s.From {
			out = append(out, s.Subject)
		}
	}
	return out
}

// chapter tells what Flatten must answer.
func chapter(major uint64, l api.Lane) ([]api.Slot, int, api.Errno) {
	if i, why := chapterRefusal(major, l); why != api.OK {
		return nil, i, why
	}
	slots := slotsOf(chapterTicks(major, l))
	if len(slots) > 4096 {
		return nil, -1, api.ErrMany
	}
	return slots, 0, api.OK
}

// demand tells what Demand must answer: each run alone, so that none is
// refused for those ahead of it.
func demand(major uint64, l api.Lane) (uint64, bool) {
	if _, why := chapterRefusal(major, api.Lane{}); why != api.OK {
		return 0, false
	}
	sum := uint64(0)
	for _, r := range l.Runs {
		alone := api.Lane{Needs: l.Needs, Runs: []api.Run{r}}
		if _, why := chapterRefusal(major, alone); why != api.OK {
			return 0, false
		}
		for _, s := range chapterTicks(major, alone) {
			if s != "" || r.Subject == "" {
				sum++
			}
		}
		if r.Subject == "" {
			// An idle's ticks can't be told from those that are left.
			sum += r.Budget - major
		}
	}
	return sum, true
}

// hold holds Flatten and Demand of a lane against the chapter.
func hold(t *testing.T, major uint64, l api.Lane) {
	t.Helper()
	slots, i, why := Flatten(major, l)
	wantSlots, wantI, wantWhy := chapter(major, l)
	if why != wantWhy || i != wantI || !slices.Equal(slots, wantSlots) {
		t.Fatalf("P9.1 to P9.3: %d, %+v: %v, %d, %v, want %v, %d, %v", major, l, slots, i, why, wantSlots, wantI, wantWhy)
	}
	d, ok := Demand(major, l)
	wantD, wantOk := demand(major, l)
	if d != wantD || ok != wantOk {
		t.Fatalf("P9.5: %d, %+v: %d, %v, want %d, %v", major, l, d, ok, wantD, wantOk)
	}
}

// someRuns tells all runs of a short frame, the wrong ones too.
func someRuns(major uint64, subjects ...string) []api.Run {
	var out []api.Run
	for _, s := range subjects {
		for b := uint64(0); b <= major+1; b++ {
			for p := uint64(0); p <= major+1; p++ {
				out = append(out, api.Run{Subject: s, Budget: b, Period: p})
			}
		}
	}
	return out
}

// TestShortLanes: P9.1, P9.2, P9.3, P9.5: all lanes of short frames with up to
// two runs of any kind.
func TestShortLanes(t *testing.T) {
	for _, needs := range []bool{false, true} {
		for major := uint64(0); major <= 6; major++ {
			t.Run(fmt.Sprint(needs, major), func(t *testing.T) {
				t.Parallel()
				all := someRuns(major, "", "a", "b")
				hold(t, major, api.Lane{Needs: needs})
				for _, one := range all {
					hold(t, major, api.Lane{Needs: needs, Runs: []api.Run{one}})
					for _, two := range all {
						hold(t, major, api.Lane{Needs: needs, Runs: []api.Run{one, two}})
					}
				}
			})
		}
	}
}

// TestThreeNeeds: P9.3: all lanes of three right needs in short frames.
func TestThreeNeeds(t *testing.T) {
	for _, major := range []uint64{4, 6, 8} {
		t.Run(fmt.Sprint(major), func(t *testing.T) {
			t.Parallel()
			right := slices.DeleteFunc(someRuns(major, "a", "b", "c"), func(r api.Run) bool {
				_, why := chapterRefusal(major, api.Lane{Needs: true, Runs: []api.Run{r}})
				return why != api.OK
			})
			for _, one := range right {
				for _, two := range right {
					for _, three := range right {
						hold(t, major, api.Lane{Needs: true, Runs: []api.Run{one, two, three}})
					}
				}
			}
		})
	}
}

// divisors tells what divides a number.
func divisors(n uint64) []uint64 {
	var out []uint64
	for d := uint64(1); d <= n; d++ {
		if n%d == 0 {
			out = append(out, d)
		}
	}
	return out
}

// needsAtRandom puts needs together as long as they fit, and now and then one
// more; each of a subject of its own, if apart is true.
func needsAtRandom(r *rand.Rand, major uint64, most int, apart bool) []api.Run {
	var out []api.Run
	left, periods := major, divisors(major)
	for range most {
		n := api.Run{Subject: string(rune('a' + r.Intn(4))), Period: periods[r.Intn(len(periods))]}
		if apart {
			n.Subject = fmt.Sprint("s.", len(out))
		}
		n.Budget = 1 + uint64(r.Int63n(int64(n.Period)))
		if r.Intn(2) == 0 {
			n.Budget = 1 + n.Budget/8
		}
		n.Budget = min(n.Budget, n.Period)
		wanted := n.Budget * (major / n.Period)
		if wanted > left && r.Intn(200) > 0 {
			continue
		}
		left -= min(wanted, left)
		out = append(out, n)
	}
	return out
}

// TestLanesAtRandom: P9.1 to P9.3, P9.5: longer lanes of longer frames.
func TestLanesAtRandom(t *testing.T) {
	for seed := range int64(8) {
		t.Run(fmt.Sprint(seed), func(t *testing.T) {
			t.Parallel()
			r := rand.New(rand.NewSource(seed))
			for range 400 {
				major := []uint64{12, 24, 30, 36, 48, 60, 64, 120, 1 + uint64(r.Intn(100))}[r.Intn(9)]
				hold(t, major, api.Lane{Needs: true, Runs: needsAtRandom(r, major, 12, false)})
				var runs []api.Run
				for range r.Intn(12) {
					runs = append(runs, api.Run{Subject: []string{"", "a", "b"}[r.Intn(3)], Budget: uint64(r.Intn(int(major)/4+2)) + 1, Period: r.Uint64()})
				}
				hold(t, major, api.Lane{Runs: runs})
			}
		})
	}
}

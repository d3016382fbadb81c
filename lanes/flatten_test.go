package lanes

import (
	"fmt"
	"math"
	"math/rand"
	"slices"
	"testing"

	"bulkhead/api"
)

// run, need and idle write a lane's runs down.
func run(subject string, budget uint64) api.Run { return api.Run{Subject: subject, Budget: budget} }
func idle(budget uint64) api.Run                { return api.Run{Budget: budget} }
func need(subject string, budget, period uint64) api.Run {
	return api.Run{Subject: subject, Budget: budget, Period: period}
}

func runsLane(runs ...api.Run) api.Lane  { return api.Lane{Runs: runs} }
func needsLane(runs ...api.Run) api.Lane { return api.Lane{Needs: true, Runs: runs} }

// slotRow writes a slot row down: each slot's subject and where it ends.
func slotRow(parts ...any) []api.Slot {
	var out []api.Slot
	from := 0
	for i := 0; i < len(parts); i += 2 {
		to := parts[i+1].(int)
		out = append(out, api.Slot{Subject: parts[i].(string), From: from, To: to})
		from = to
	}
	return out
}

// TestExamples: the chapter's examples.
func TestExamples(t *testing.T) {
	t.Parallel()
	for i, c := range []struct {
		major uint64
		lane  api.Lane
		slots []api.Slot
		at    int
		why   api.Errno
	}{
		{10, runsLane(run("a", 3), idle(2), run("a", 1), run("b", 2)), slotRow("a", 3, "", 5, "a", 6, "b", 8, "", 10), 0, api.OK},
		{4, needsLane(need("a", 1, 2), need("b", 2, 4)), slotRow("a", 1, "b", 2, "a", 3, "b", 4), 0, api.OK},
		{4, needsLane(need("a", 2, 4), need("b", 2, 4)), slotRow("a", 2, "b", 4), 0, api.OK},
		{4, needsLane(need("a", 1, 3)), nil, 0, api.ErrPeriod},
		{4, needsLane(need("a", 2, 2), need("b", 1, 4)), nil, 1, api.ErrDemand},
		{65536, needsLane(need("a", 1, 2)), nil, -1, api.ErrMany},
	} {
		slots, at, why := Flatten(c.major, c.lane)
		if !slices.Equal(slots, c.slots) || at != c.at || why != c.why {
			t.Errorf("example %d: %v, %d, %v", i+1, slots, at, why)
		}
	}
	if d, ok := Demand(4, needsLane(need("a", 1, 2), need("b", 2, 4))); d != 4 || !ok {
		t.Errorf("example 2: the demand is %d, %v", d, ok)
	}
	slots, _, _ := Flatten(10, runsLane(run("a", 3), idle(2), run("a", 1), run("b", 2)))
	if s := Share(slots, "a"); s != 0.4 {
		t.Errorf("example 7: %v", s)
	}
}

// TestRefusals: P9.1: each refusal at its edges, and their order.
func TestRefusals(t *testing.T) {
	t.Parallel()
	const most = math.MaxUint64
	for _, c := range []struct {
		what  string
		major uint64
		lane  api.Lane
		at    int
		why   api.Errno
	}{
		{"no frame", 0, runsLane(), -1, api.ErrMajor},
		{"no frame, ahead of all runs", 0, needsLane(need("", 0, 0)), -1, api.ErrMajor},
		{"a frame too long", 65537, runsLane(run("a", 0)), -1, api.ErrMajor},
		{"a frame much too long", most, runsLane(), -1, api.ErrMajor},
		{"a frame that is 1 in 32 bits", 1<<32 + 1, runsLane(), -1, api.ErrMajor},
		{"the longest frame", 65536, runsLane(run("a", 65536)), 0, api.OK},
		{"the shortest frame", 1, needsLane(need("a", 1, 1)), 0, api.OK},
		{"no budget", 4, runsLane(run("a", 1), run("a", 0)), 1, api.ErrBudget},
		{"no budget of an idle", 4, runsLane(idle(0)), 0, api.ErrBudget},
		{"a budget of the frame", 4, runsLane(run("a", 4)), 0, api.OK},
		{"a budget above the frame", 4, runsLane(run("a", 5)), 0, api.ErrBudget},
		{"a budget above the frame, ahead of the demand", 4, runsLane(run("a", 4), run("a", 5)), 1, api.ErrBudget},
		{"a greatest budget", 4, runsLane(run("a", 1), run("a", most)), 1, api.ErrBudget},
		{"a greatest budget and period", 4, needsLane(need("a", most, most)), 0, api.ErrBudget},
		{"a budget that is 1 in 32 bits", 4, runsLane(run("a", 1<<32+1)), 0, api.ErrBudget},
		{"no budget, ahead of the name and the period", 4, needsLane(need("", 0, 0)), 0, api.ErrBudget},
		{"no name, ahead of the period", 4, needsLane(need("", 1, 3)), 0, api.ErrName},
		{"no name, behind a right one", 4, needsLane(need("a", 1, 4), need("", 1, 4)), 1, api.ErrName},
		{"no name, ahead of the demand", 4, needsLane(need("a", 4, 4), need("", 1, 4)), 1, api.ErrName},
		{"no name without needs", 4, runsLane(need("", 1, 4)), 0, api.OK},
		{"no period", 4, needsLane(need("a", 1, 0)), 0, api.ErrPeriod},
		{"a period above the frame", 4, needsLane(need("a", 1, 8)), 0, api.ErrPeriod},
		{"a period one above the frame", 4, needsLane(need("a", 1, 5)), 0, api.ErrPeriod},
		{"a greatest period", 4, needsLane(need("a", 1, most)), 0, api.ErrPeriod},
		{"a period that does not divide", 12, needsLane(need("a", 1, 8)), 0, api.ErrPeriod},
		{"a period below the budget", 12, needsLane(need("a", 4, 3)), 0, api.ErrPeriod},
		{"a period of the budget", 12, needsLane(need("a", 3, 3)), 0, api.OK},
		{"a period, ahead of the demand", 4, needsLane(need("a", 4, 4), need("b", 1, 3)), 1, api.ErrPeriod},
		{"a period that is not looked at", 4, runsLane(need("a", 2, 0), need("b", 1, 3), need("c", 1, most)), 0, api.OK},
		{"as much as there is", 12, needsLane(need("a", 1, 3), need("b", 2, 4), need("c", 2, 12)), 0, api.OK},
		{"one tick more", 12, needsLane(need("a", 1, 3), need("b", 2, 4), need("c", 3, 12)), 2, api.ErrDemand},
		{"one tick more, ahead of a wrong run", 12, needsLane(need("a", 4, 4), need("c", 1, 12), need("", 0, 0)), 1, api.ErrDemand},
		{"as many runs as there is", 4, runsLane(run("a", 2), idle(1), run("b", 1)), 0, api.OK},
		{"an idle more", 4, runsLane(run("a", 2), run("b", 2), idle(1)), 2, api.ErrDemand},
		{"an idle counts", 4, runsLane(idle(3), run("a", 2)), 1, api.ErrDemand},
		{"the second is too much, and the third", 4, runsLane(run("a", 3), run("b", 3), run("c", 3)), 1, api.ErrDemand},
	} {
		slots, at, why := Flatten(c.major, c.lane)
		if at != c.at || why != c.why {
			t.Errorf("P9.1: %s: %d, %v, want %d, %v", c.what, at, why, c.at, c.why)
		}
		if why != api.OK && len(slots) != 0 {
			t.Errorf("P9.1: %s: %v, and beside it %v", c.what, why, slots)
		}
		if n := length(slots); why == api.OK && n != int(c.major) {
			t.Errorf("P9.1: %s: no slot row of %d ticks: %v", c.what, c.major, slots)
		}
	}
}

// TestManySlots: P9.1: 4096 slots are taken, one more is not, of both kinds
// of lanes; it is asked behind all runs.
func TestManySlots(t *testing.T) {
	t.Parallel()
	byTurns := func(n int) []api.Run {
		var out []api.Run
		for i := range n {
			out = append(out, run([]string{"a", "b"}[i%2], 1))
		}
		return out
	}
	for _, c := range []struct {
		what  string
		major uint64
		lane  api.Lane
		many  int
		at    int
		why   api.Errno
	}{
		{"4096 runs", 4096, runsLane(byTurns(4096)...), 4096, 0, api.OK},
		{"4096 runs and nobody behind them", 4097, runsLane(byTurns(4096)...), 0, -1, api.ErrMany},
		{"4095 runs and nobody behind them", 65536, runsLane(byTurns(4095)...), 4096, 0, api.OK},
		{"4097 runs", 4097, runsLane(byTurns(4097)...), 0, -1, api.ErrMany},
		{"65536 runs", 65536, runsLane(byTurns(65536)...), 0, -1, api.ErrMany},
		{"many, and a wrong one behind them", 65536, runsLane(append(byTurns(9000), run("a", 0))...), 0, 9000, api.ErrBudget},
		{"many, and too much behind them", 9000, runsLane(append(byTurns(9000), run("a", 1))...), 0, 9000, api.ErrDemand},
		{"65536 runs of one subject", 65536, runsLane(slices.Repeat([]api.Run{run("a", 1)}, 65536)...), 1, 0, api.OK},
		{"65536 idles", 65536, runsLane(slices.Repeat([]api.Run{idle(1)}, 65536)...), 1, 0, api.OK},
		{"65536 needs of one subject", 65536, needsLane(slices.Repeat([]api.Run{need("a", 1, 65536)}, 65536)...), 1, 0, api.OK},
		{"one need more", 65536, needsLane(slices.Repeat([]api.Run{need("a", 1, 65536)}, 65537)...), 0, 65536, api.ErrDemand},
		{"65536 jobs of one subject", 65536, needsLane(need("a", 1, 1)), 1, 0, api.OK},
		{"4096 slots of needs", 8192, needsLane(need("a", 1, 4)), 4096, 0, api.OK},
		{"two slots more", 8196, needsLane(need("a", 1, 4)), 0, -1, api.ErrMany},
		{"4096 slots of needs without nobody", 4096, needsLane(need("a", 1, 2), need("b", 1, 2)), 4096, 0, api.OK},
		{"two slots more, again", 4098, needsLane(need("a", 1, 2), need("b", 1, 2)), 0, -1, api.ErrMany},
		{"many slots, and a wrong need behind them", 65536, needsLane(need("a", 1, 2), need("b", 1, 3)), 0, 1, api.ErrPeriod},
	} {
		slots, at, why := Flatten(c.major, c.lane)
		if len(slots) != c.many || at != c.at || why != c.why {
			t.Errorf("P9.1: %s: %d slots, %d, %v", c.what, len(slots), at, why)
		}
	}
}

// TestRunsInTurn: P9.2: runs and idles one behind the other, nobody behind
// them; neighbours are one slot.
func TestRunsInTurn(t *testing.T) {
	t.Parallel()
	for _, c := range []struct {
		what  string
		major uint64
		lane  api.Lane
		want  []api.Slot
	}{
		{"none", 7, runsLane(), slotRow("", 7)},
		{"an idle at the beginning", 7, runsLane(idle(2), run("a", 5)), slotRow("", 2, "a", 7)},
		{"an idle at the end", 7, runsLane(run("a", 5), idle(1)), slotRow("a", 5, "", 7)},
		{"idles alone", 7, runsLane(idle(1), idle(2)), slotRow("", 7)},
		{"neighbours", 7, runsLane(run("a", 1), run("a", 2), idle(1), idle(1), run("a", 1)), slotRow("a", 3, "", 5, "a", 6, "", 7)},
		{"up to the end", 7, runsLane(run("a", 3), run("b", 4)), slotRow("a", 3, "b", 7)},
		{"a subject's name is any text", 3, runsLane(run("\x00", 1), run(" ", 1), run("a\xff", 1)), slotRow("\x00", 1, " ", 2, "a\xff", 3)},
	} {
		if slots, at, why := Flatten(c.major, c.lane); !slices.Equal(slots, c.want) || at != 0 || why != api.OK {
			t.Errorf("P9.2: %s: %v, %d, %v", c.what, slots, at, why)
		}
	}
}

// TestDeadlines: P9.3: who is due first runs first; of those due at once the
// one whose need stands first.
func TestDeadlines(t *testing.T) {
	t.Parallel()
	for _, c := range []struct {
		what  string
		major uint64
		lane  api.Lane
		want  []api.Slot
	}{
		{"none", 7, needsLane(), slotRow("", 7)},
		{"due first, though it stands behind", 6, needsLane(need("a", 2, 6), need("b", 1, 3)), slotRow("b", 1, "a", 3, "b", 4, "", 6)},
		{"due at once, another order", 4, needsLane(need("b", 2, 4), need("a", 2, 4)), slotRow("b", 2, "a", 4)},
		{"one that has begun is interrupted", 8, needsLane(need("a", 2, 8), need("b", 1, 4), need("c", 1, 2)), slotsOf([]string{"c", "b", "c", "a", "c", "a", "b", "c"})},
		{"due at once with one that has begun", 4, needsLane(need("a", 1, 2), need("b", 2, 4)), slotRow("a", 1, "b", 2, "a", 3, "b", 4)},
		{"the same, the long one first", 4, needsLane(need("b", 2, 4), need("a", 1, 2)), slotRow("a", 1, "b", 3, "a", 4)},
		{"two needs of one subject", 4, needsLane(need("a", 1, 4), need("a", 1, 2)), slotRow("a", 3, "", 4)},
		{"two needs of one subject around another", 6, needsLane(need("a", 1, 2), need("b", 1, 6), need("a", 1, 3)), slotRow("a", 3, "b", 4, "a", 6)},
		{"jobs of one need", 6, needsLane(need("a", 3, 3)), slotRow("a", 6)},
		{"nobody between", 6, needsLane(need("a", 1, 3), need("b", 1, 3)), slotRow("a", 1, "b", 2, "", 3, "a", 4, "b", 5, "", 6)},
	} {
		if slots, at, why := Flatten(c.major, c.lane); !slices.Equal(slots, c.want) || at != 0 || why != api.OK {
			t.Errorf("P9.3: %s: %v, %d, %v, want %v", c.what, slots, at, why, c.want)
		}
	}
}

// TestDemand: P9.5: the sum goes on above major, and a refusal behind it is met.
func TestDemand(t *testing.T) {
	t.Parallel()
	for _, c := range []struct {
		what  string
		major uint64
		lane  api.Lane
		want  uint64
		ok    bool
	}{
		{"none", 5, runsLane(), 0, true},
		{"no frame", 0, runsLane(), 0, false},
		{"a frame too long", 65537, runsLane(), 0, false},
		{"the longest frame", 65536, runsLane(run("a", 65536)), 65536, true},
		{"runs and idles", 10, runsLane(run("a", 3), idle(2)), 5, true},
		{"above major", 10, runsLane(run("a", 7), idle(9), run("b", 10)), 26, true},
		{"above major, and no budget behind it", 10, runsLane(run("a", 7), idle(9), run("b", 0)), 0, false},
		{"a budget too large", 10, runsLane(run("a", 11)), 0, false},
		{"needs", 12, needsLane(need("a", 2, 3), need("b", 9, 12)), 17, true},
		{"above major, and no name behind it", 12, needsLane(need("a", 2, 3), need("b", 9, 12), need("", 1, 1)), 0, false},
		{"above major, and no period behind it", 12, needsLane(need("a", 2, 3), need("b", 9, 12), need("b", 1, 5)), 0, false},
		{"a period not looked at", 12, runsLane(need("a", 2, 5)), 2, true},
		{"more slots than may be", 65536, needsLane(need("a", 1, 2)), 32768, true},
		{"more than 32 bits", 65536, needsLane(slices.Repeat([]api.Run{need("a", 1, 1)}, 1<<17)...), 1 << 33, true},
	} {
		if d, ok := Demand(c.major, c.lane); d != c.want || ok != c.ok {
			t.Errorf("P9.5: %s: %d, %v", c.what, d, ok)
		}
	}
}

// holdTicks holds a schedule of needs, each of a subject of its own, against
// the promises, and not against a schedule.
func holdTicks(t *testing.T, major uint64, needs []api.Run, ticks []string) {
	t.Helper()
	number := map[string]int{}
	left := make([]uint64, len(needs))
	for i, n := range needs {
		number[n.Subject] = i
	}
	for at := range major {
		for i, n := range needs {
			if at%n.Period != 0 {
				continue
			}
			if left[i] != 0 {
				t.Fatalf("P9.6: %d, %+v: at %d the need %d lacks %d ticks", major, needs, at, i, left[i])
			}
			left[i] = n.Budget
		}
		due := func(i int) uint64 { return (at/needs[i].Period + 1) * needs[i].Period }
		now, some := number[ticks[at]]
		if some && left[now] == 0 {
			t.Fatalf("P9.6: %d, %+v: at %d the need %d has no job left", major, needs, at, now)
		}
		for i := range needs {
			if left[i] == 0 {
				continue
			}
			if !some {
				t.Fatalf("P9.9: %d, %+v: at %d nobody runs, and the need %d has a job left", major, needs, at, i)
			}
			if due(i) < due(now) || due(i) == due(now) && i < now {
				t.Fatalf("P9.3: %d, %+v: at %d the need %d runs ahead of %d", major, needs, at, now, i)
			}
		}
		if some {
			left[now]--
		}
	}
	for i := range left {
		if left[i] != 0 {
			t.Fatalf("P9.6: %d, %+v: at the end the need %d lacks %d ticks", major, needs, i, left[i])
		}
	}
}

// TestEachGetsItsBudget: P9.6, P9.7, P9.9: whatever needs want no more than
// major get all of it, in frames of all lengths.
func TestEachGetsItsBudget(t *testing.T) {
	for seed := range int64(8) {
		t.Run(fmt.Sprint(seed), func(t *testing.T) {
			t.Parallel()
			r := rand.New(rand.NewSource(100 + seed))
			many, fine := 0, 0
			for range 150 {
				major := []uint64{60, 720, 5040, 40320, 65536, 1 + uint64(r.Intn(65536))}[r.Intn(6)]
				needs := needsAtRandom(r, major, 10, true)
				d, ok := Demand(major, needsLane(needs...))
				slots, at, why := Flatten(major, needsLane(needs...))
				switch {
				case !ok:
					t.Fatalf("P9.5: %d, %+v", major, needs)
				case d > major:
					if why != api.ErrDemand || at < 1 || at >= len(needs) {
						t.Fatalf("P9.7: %d, %+v: %v at %d", major, needs, why, at)
					}
				case why == api.ErrMany && at == -1:
					made := byDeadline(int(major), needs)
					if many++; len(made) <= 4096 {
						t.Fatalf("P9.7: %d, %+v: only %d slots", major, needs, len(made))
					}
					holdTicks(t, major, needs, ticksOf(made))
				case why != api.OK || at != 0 || len(slots) > 4096 || length(slots) != int(major):
					t.Fatalf("P9.7: %d, %+v: %v at %d", major, needs, why, at)
				default:
					fine++
					holdTicks(t, major, needs, ticksOf(slots))
				}
			}
			if many == 0 || fine == 0 {
				t.Errorf("%d refused for many slots, %d taken", many, fine)
			}
		})
	}
}

// TestMemory: R2: what is handed in is not changed, its spare room neither;
// no answer shares memory with another one. R4: the same lane, the same answer.
func TestMemory(t *testing.T) {
	t.Parallel()
	for _, needs := range []bool{false, true} {
		room := []api.Run{need("c", 1, 12), need("a", 1, 3), need("b", 2, 4), need("x", 9, 9), need("y", 9, 9)}
		before := slices.Clone(room)
		l := api.Lane{Needs: needs, Runs: room[:3], CPU: 77, Pos: -4}
		one, _, _ := Flatten(12, l)
		other, _, _ := Flatten(12, l)
		Demand(12, l)
		if !slices.Equal(room, before) {
			t.Errorf("R2: %v: %v", needs, room)
		}
		kept := slices.Clone(other)
		for i := range one[:cap(one)] {
			one[:cap(one)][i] = api.Slot{Subject: "z", From: -1, To: -1}
		}
		again, _, _ := Flatten(12, l)
		if !slices.Equal(other, kept) || !slices.Equal(again, kept) {
			t.Errorf("R2: %v: %v, %v, %v", needs, other, again, kept)
		}
	}
}

package kernel

import (
	"fmt"
	"math/big"
	"math/rand"
	"testing"

	"bulkhead/api"
	"bulkhead/forge"
	"bulkhead/lanes"
)

// TestTicks: P16.5: Tick n is n Ticks of 1.
func TestTicks(t *testing.T) {
	t.Parallel()
	m := maker{rand.New(rand.NewSource(8))}
	for range 60 {
		b := m.built(t)
		k, _ := booted(t, b)
		l, _ := booted(t, b)
		w := meaning(b.Policy)
		for range 60 {
			s := m.step(w)
			if s.Kind == api.Tick {
				s.Value %= 3000
			}
			w.step(s)
			x, y := k.Step(s), api.Result{}
			if s.Kind != api.Tick {
				y = l.Step(s)
			} else {
				for range s.Value {
					l.Step(tick(1))
				}
			}
			if x != y || sees(k) != sees(l) {
				t.Fatalf("P16.5: %+v: %+v and %+v, want %+v and %+v", s, x, sees(k), y, sees(l))
			}
		}
	}
}

// TestManyTicks: P16.5: of any number, in one step and in two, and by sums
// without bounds.
func TestManyTicks(t *testing.T) {
	t.Parallel()
	r := rand.New(rand.NewSource(9))
	b := compiled(t, whole)
	for range 300 {
		ahead, asked := uint64(r.Intn(12)), r.Intn(2)
		n := pick(r, r.Uint64(), r.Uint64()>>r.Intn(64), 1<<64-1, 1<<64-2, 1<<63, 12, 12-ahead, 11-ahead, 13-ahead, 17-ahead, 16-ahead)
		alarm := pick(r, n, n+1, n-1, r.Uint64(), 1<<64-1, 1, 0)
		k, _ := booted(t, b)
		l, _ := booted(t, b)
		prelude := []row{{change(0, asked), fine}, {arm(0, alarm, 1), fine}, {arm(1, ahead, 2), fine}}
		play(t, "ahead", k, prelude...)
		play(t, "ahead", l, prelude...)
		for _, x := range []*Kernel{k, l} {
			for range ahead {
				x.Step(tick(1))
			}
		}
		part := n - n/uint64(1+r.Intn(9))
		play(t, "one step", k, row{tick(n), fine})
		play(t, "two steps", l, row{tick(part), fine}, row{tick(n - part), fine})
		what := fmt.Sprintf("P16.5: %d ticks behind %d, plan %d asked for", n, ahead, asked)
		if sees(k) != sees(l) {
			t.Errorf("%s: %+v, by two steps %+v", what, sees(k), sees(l))
		}
		plan, offset := reckoned(12, int64(5+7*(1-asked)), ahead, n)
		if k.Plan() != plan*asked || k.Offset() != offset || k.Clock() != n+ahead {
			t.Errorf("%s: plan %d, offset %d, clock %d, want %d, %d", what, k.Plan(), k.Offset(), k.Clock(), plan*asked, offset)
		}
		holdTimer(t, what, k, l, alarm, ahead, n)
	}
}

// reckoned is behind how many ticks which plan is active, 0 or the one that was
// asked for (1), and the offset in it.
func reckoned(major, next int64, ahead, n uint64) (int, int) {
	at := new(big.Int).Add(new(big.Int).SetUint64(ahead), new(big.Int).SetUint64(n))
	if at.Cmp(big.NewInt(major)) < 0 {
		return 0, int(at.Int64())
	}
	at.Sub(at, big.NewInt(major))
	return 1, int(at.Mod(at, big.NewInt(next)).Int64())
}

// holdTimer holds whether a's timer of so many ticks has rung.
func holdTimer(t *testing.T, what string, k, l *Kernel, alarm, ahead, n uint64) {
	t.Helper()
	sum := new(big.Int).Add(new(big.Int).SetUint64(ahead), new(big.Int).SetUint64(n))
	want := uint64(0)
	if alarm > 0 && sum.Cmp(new(big.Int).SetUint64(alarm)) >= 0 {
		want = 1
	}
	for _, x := range []*Kernel{k, l} {
		for range 12 {
			if x.Current(0) == 0 {
				break
			}
			// The timer has so many ticks left that these make no difference,
			// or it has rung.
			if alarm > 0 && want == 0 && new(big.Int).Sub(new(big.Int).SetUint64(alarm), sum).Cmp(big.NewInt(20)) < 0 {
				return
			}
			x.Step(tick(1))
		}
		if r := x.Step(poll(0, 1)); r != value(want) {
			t.Errorf("%s, a timer of %d: %+v, want %d", what, alarm, r, want)
		}
	}
}

// TestClock: the clock goes on modulo 2^64; a timer may have all ticks.
func TestClock(t *testing.T) {
	t.Parallel()
	k, _ := up(t, `system s { ram 0 size 64K; subject a cpu 0 { } plan p major 7 { cpu 0 { run a 7; } } start p; }`)
	play(t, "P16.5", k, row{arm(0, 1<<64-1, 9), fine}, row{tick(1<<64 - 2), fine}, row{poll(0, 9), fine}, row{tick(1), fine}, row{poll(0, 9), value(1)},
		row{status(0), api.Result{At: 6, Clock: 1<<64 - 1}}, row{tick(3), fine}, row{status(0), api.Result{At: 3, Clock: 2}}, row{poll(0, 9), fine})
	// 2^64 - 1 is 1 behind a multiple of 7.
	if k.Offset() != 4 || k.Clock() != 2 {
		t.Errorf("P16.5: offset %d, clock %d", k.Offset(), k.Clock())
	}
	play(t, "P16.5", k, row{arm(0, 5, 9), fine}, row{tick(1<<64 - 1), fine}, row{poll(0, 9), value(1)}, row{tick(1<<64 - 1), fine}, row{poll(0, 9), fine})
	if k.Clock() != 0 {
		t.Errorf("the clock is %d", k.Clock())
	}
}

// TestTime: W4: who is current hangs on plans and ticks alone, whatever anybody
// does; in each major frame everybody has its ticks.
func TestTime(t *testing.T) {
	t.Parallel()
	m := maker{rand.New(rand.NewSource(10))}
	for n := range 60 {
		b := m.built(t)
		k, _ := booted(t, b)
		w := meaning(b.Policy)
		major := w.majors[w.active]
		if major > 60 {
			continue
		}
		ticks := make([]int, len(w.beings))
		for range 2 * major {
			// Steps by all but the ticks and the plan's switch.
			for range 5 {
				if s := m.step(w); s.Kind != api.Tick && s.Kind != api.Switch {
					k.Step(s)
					w.step(s)
				}
			}
			for cpu := range 4 {
				if who := k.Current(cpu); who >= 0 {
					ticks[who]++
				}
			}
			k.Step(tick(1))
			w.step(tick(1))
		}
		for who, s := range b.Policy.Subjects {
			if want := 2 * budget(b.Policy, w.active, s); ticks[who] != want {
				t.Fatalf("W4: policy %d: %s is current in %d ticks of two frames, want %d", n, s.Name, ticks[who], want)
			}
		}
	}
}

// budget is how many ticks a subject has in a plan's frame.
func budget(p api.Policy, plan int, s api.Subject) int {
	for _, l := range p.Plans[plan].Lanes {
		if l.CPU == s.CPU {
			row, _, _ := lanes.Flatten(p.Plans[plan].Major, l)
			return lanes.Budget(row, s.Name)
		}
	}
	return 0
}

// TestBegins: W4: a plan that is asked for begins at the next wrap, and at no
// other time.
func TestBegins(t *testing.T) {
	t.Parallel()
	for at := range uint64(10) {
		k, _ := up(t, string(forge.Family(2)))
		k.Step(tick(at))
		play(t, "ask", k, row{change(0, 1), fine})
		for n := at; n < 640; n++ {
			if k.Plan() != 0 || k.Offset() != int(n) {
				t.Fatalf("W4: at %d plan %d, offset %d", n, k.Plan(), k.Offset())
			}
			k.Step(tick(1))
		}
		for n := range 250 {
			if k.Plan() != 1 || k.Offset() != n%100 {
				t.Fatalf("W4: %d ticks later plan %d, offset %d", n, k.Plan(), k.Offset())
			}
			k.Step(tick(1))
		}
	}
}

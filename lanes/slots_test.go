package lanes

import (
	"fmt"
	"math"
	"math/rand"
	"slices"
	"testing"

	"bulkhead/api"
)

// isRow tells whether a short list is a slot row: whether it is what its own
// ticks, one behind the other, are put together to.
func isRow(slots []api.Slot) bool {
	if len(slots) == 0 {
		return false
	}
	for _, s := range slots {
		if s.From >= s.To {
			return false
		}
	}
	return slices.Equal(slots, slotsOf(ticksOf(slots)))
}

// holdSlots holds what is told of a short list against its ticks.
func holdSlots(t *testing.T, slots []api.Slot) {
	t.Helper()
	var ticks []string
	if isRow(slots) {
		ticks = ticksOf(slots)
	}
	for o := -2; o <= 2*len(ticks)+2; o++ {
		subject, left := "", 0
		if at := max(o, 0); len(ticks) > 0 {
			at %= len(ticks)
			subject = ticks[at]
			for left = 1; at+left < len(ticks) && ticks[at+left] == subject; left++ {
			}
		}
		if s, n := Sched(slots, o); s != subject || n != left {
			t.Fatalf("P9.4: %v: Sched %d is %q, %d, want %q, %d", slots, o, s, n, subject, left)
		}
	}
	for _, subject := range []string{"", "a", "b"} {
		sum := 0
		for _, s := range slots {
			if s.Subject == subject && s.From >= 0 && s.To > s.From {
				sum += s.To - s.From
			}
		}
		if n := Budget(slots, subject); n != sum {
			t.Fatalf("P9.4: %v: Budget of %q is %d, want %d", slots, subject, n, sum)
		}
		share := 0.0
		if len(ticks) > 0 {
			share = float64(sum) / float64(len(ticks))
		}
		if x := Share(slots, subject); x != share || math.Signbit(x) {
			t.Fatalf("P9.4: %v: Share of %q is %v, want %v", slots, subject, x, share)
		}
	}
}

// TestShortLists: P9.4: all lists of up to three slots with small ends.
func TestShortLists(t *testing.T) {
	var all []api.Slot
	for _, subject := range []string{"", "a", "b"} {
		for from := -1; from <= 4; from++ {
			for to := -1; to <= 5; to++ {
				all = append(all, api.Slot{Subject: subject, From: from, To: to})
			}
		}
	}
	holdSlots(t, nil)
	holdSlots(t, []api.Slot{})
	for _, one := range all {
		t.Run(fmt.Sprint(one), func(t *testing.T) {
			t.Parallel()
			holdSlots(t, []api.Slot{one})
			for _, two := range all {
				holdSlots(t, []api.Slot{one, two})
				if one.To != two.From {
					continue
				}
				for _, three := range all {
					holdSlots(t, []api.Slot{one, two, three})
				}
			}
		})
	}
}

// TestListsAtRandom: P9.4: slot rows, and slot rows with one number or one
// subject changed.
func TestListsAtRandom(t *testing.T) {
	t.Parallel()
	r := rand.New(rand.NewSource(9))
	rows, others := 0, 0
	for range 4000 {
		var ticks []string
		for range 1 + r.Intn(30) {
			ticks = append(ticks, []string{"", "a", "b"}[r.Intn(3)])
		}
		slots := slotsOf(ticks)
		holdSlots(t, slots)
		s := &slots[r.Intn(len(slots))]
		switch r.Intn(4) {
		case 0:
			s.From += r.Intn(3) - 1
		case 1:
			s.To += r.Intn(3) - 1
		case 2:
			s.Subject = []string{"", "a", "b"}[r.Intn(3)]
		case 3:
			s.From, s.To = s.To, s.From
		}
		if isRow(slots) {
			rows++
		} else {
			others++
		}
		holdSlots(t, slots)
	}
	if rows == 0 || others == 0 {
		t.Errorf("%d rows, %d that are none", rows, others)
	}
}

// TestLongRows: P9.4: a slot row has any number of ticks, and o any number.
func TestLongRows(t *testing.T) {
	t.Parallel()
	long := slotRow("a", 1<<40, "", 1<<41, "b", math.MaxInt)
	for _, c := range []struct {
		slots   []api.Slot
		o       int
		subject string
		left    int
	}{
		{long, 0, "a", 1 << 40},
		{long, math.MinInt, "a", 1 << 40},
		{long, -1, "a", 1 << 40},
		{long, 1<<40 - 1, "a", 1},
		{long, 1 << 40, "", 1 << 40},
		{long, 1 << 41, "b", math.MaxInt - 1<<41},
		{long, math.MaxInt - 1, "b", 1},
		{long, math.MaxInt, "a", 1 << 40},
		{slotRow("a", 3, "b", 10), math.MaxInt, "b", 3},
		{slotRow("a", 1), math.MaxInt, "a", 1},
		{slotRow("", 1), 5, "", 1},
		{slotRow("a", 2, "b", 3, "a", 5), 4, "a", 1},
		{slotRow("a", 2, "b", 3, "a", 5), 5, "a", 2},
	} {
		if s, n := Sched(c.slots, c.o); s != c.subject || n != c.left {
			t.Errorf("P9.4: %v: Sched %d is %q, %d", c.slots, c.o, s, n)
		}
	}
}

// TestNoRow: P9.4: lists of the greatest and least numbers that are no slot rows.
func TestNoRow(t *testing.T) {
	t.Parallel()
	for _, slots := range [][]api.Slot{
		{{Subject: "a", From: math.MinInt, To: math.MaxInt}},
		{{Subject: "a", From: 0, To: math.MinInt}},
		{{Subject: "a", From: math.MaxInt, To: math.MinInt}},
		{{Subject: "a", To: 5}, {Subject: "b", From: 5, To: math.MinInt}},
		{{Subject: "a", To: math.MaxInt}, {Subject: "b", From: math.MaxInt, To: math.MinInt}},
		{{Subject: "a", To: math.MaxInt}, {Subject: "b", From: math.MaxInt, To: math.MaxInt}},
		{{Subject: "a", To: 5}, {Subject: "b", From: 5, To: 7}, {Subject: "b", From: 7, To: 8}},
		{{Subject: "a", To: 5}, {Subject: "b", From: 5, To: 7}, {Subject: "c", From: 8, To: 9}},
		{{Subject: "a", To: 5}, {Subject: "b", From: 4, To: 7}},
	} {
		for _, o := range []int{math.MinInt, -1, 0, 1, 6, math.MaxInt} {
			if s, n := Sched(slots, o); s != "" || n != 0 {
				t.Errorf("P9.4: %v: Sched %d is %q, %d", slots, o, s, n)
			}
		}
		if x := Share(slots, "a"); x != 0 {
			t.Errorf("P9.4: %v: Share is %v", slots, x)
		}
	}
}

// TestBudget: P9.4: of any list those slots count whose ends are 0 to 65536
// and rise.
func TestBudget(t *testing.T) {
	t.Parallel()
	for _, c := range []struct {
		slot api.Slot
		want int
	}{
		{api.Slot{From: 0, To: 65536}, 65536},
		{api.Slot{From: 0, To: 65537}, 0},
		{api.Slot{From: 65535, To: 65536}, 1},
		{api.Slot{From: 65536, To: 65536}, 0},
		{api.Slot{From: 65536, To: 65537}, 0},
		{api.Slot{From: 65535, To: 65537}, 0},
		{api.Slot{From: -1, To: 3}, 0},
		{api.Slot{From: -3, To: -1}, 0},
		{api.Slot{From: 3, To: 3}, 0},
		{api.Slot{From: 4, To: 3}, 0},
		{api.Slot{From: math.MinInt, To: math.MaxInt}, 0},
		{api.Slot{From: math.MinInt, To: 1}, 0},
		{api.Slot{From: 1, To: math.MinInt}, 0},
		{api.Slot{From: 1, To: math.MaxInt}, 0},
	} {
		c.slot.Subject = "a"
		if n := Budget([]api.Slot{c.slot}, "a"); n != c.want {
			t.Errorf("P9.4: Budget of %+v is %d", c.slot, n)
		}
		list := []api.Slot{{Subject: "a", From: 7, To: 9}, c.slot, {Subject: "b", From: 0, To: 5}, {Subject: "a", From: 7, To: 9}}
		if n := Budget(list, "a"); n != c.want+4 {
			t.Errorf("P9.4: Budget of %+v is %d", list, n)
		}
		if n := Budget(list, "c"); n != 0 {
			t.Errorf("P9.4: Budget of c in %+v is %d", list, n)
		}
	}
	if n := Budget(slices.Repeat([]api.Slot{{Subject: "a", To: 65536}}, 1<<17), "a"); n != 1<<33 {
		t.Errorf("P9.4: Budget of many slots is %d", n)
	}
}

// TestShare: P9.4: one division of two floats.
func TestShare(t *testing.T) {
	t.Parallel()
	for major := 1; major <= 300; major++ {
		for n := 1; n < major; n++ {
			slots := slotRow("a", n, "b", major)
			if a, b := Share(slots, "a"), Share(slots, "b"); a != float64(n)/float64(major) || b != float64(major-n)/float64(major) {
				t.Fatalf("P9.4: %v: Shares %v, %v", slots, a, b)
			}
		}
	}
	for _, c := range []struct {
		slots []api.Slot
		want  float64
	}{
		{slotRow("a", 65536), 1},
		{slotRow("b", 65536), 0},
		{slotRow("a", 1, "", 65536), 1.0 / 65536},
		{slotRow("a", 1, "", 2, "a", 3), 2.0 / 3},
		// Slots that end beyond 65536 have no ticks that Budget counts.
		{slotRow("a", 65537), 0},
		{slotRow("a", 3, "b", 1<<20), 3.0 / (1 << 20)},
		{slotRow("a", 3, "b", 1<<53+1), 3.0 / (1 << 53)},
		{slotRow("a", 1, "b", math.MaxInt), 1.0 / (1 << 63)},
	} {
		if x := Share(c.slots, "a"); x != c.want {
			t.Errorf("P9.4: %v: Share %v, want %v", c.slots, x, c.want)
		}
	}
}

// TestRounds: P9.8: in any M ticks one behind the other a subject runs Budget
// ticks; P9.6 goes on in all rounds.
func TestRounds(t *testing.T) {
	t.Parallel()
	r := rand.New(rand.NewSource(98))
	for range 300 {
		major := []uint64{1, 6, 12, 30, 48}[r.Intn(5)]
		l := needsLane(needsAtRandom(r, major, 6, false)...)
		slots, _, why := Flatten(major, l)
		if why != api.OK {
			continue
		}
		wanted := map[string]uint64{}
		for _, n := range l.Runs {
			wanted[n.Subject] += n.Budget * (major / n.Period)
		}
		var who []string
		for o := range 3 * int(major) {
			s, _ := Sched(slots, o)
			who = append(who, s)
		}
		for _, s := range []string{"", "a", "b", "c", "d"} {
			if s != "" && Budget(slots, s) != int(wanted[s]) {
				t.Fatalf("P9.6: %d, %+v: %q has %d ticks, wants %d", major, l, s, Budget(slots, s), wanted[s])
			}
			for from := range 2 * int(major) {
				n := 0
				for _, w := range who[from:][:major] {
					if w == s {
						n++
					}
				}
				if n != Budget(slots, s) {
					t.Fatalf("P9.8: %d, %+v: from %d on %q has %d ticks, Budget %d", major, l, from, s, n, Budget(slots, s))
				}
			}
		}
	}
}

// TestSlotsStay: R2: the slots that are handed in are not changed.
func TestSlotsStay(t *testing.T) {
	t.Parallel()
	room := append(slotRow("a", 2, "b", 3, "", 9), api.Slot{Subject: "x", From: 9, To: 10})
	before := slices.Clone(room)
	for o := range 20 {
		Sched(room[:3], o)
	}
	Budget(room[:3], "a")
	Share(room[:3], "a")
	if !slices.Equal(room, before) {
		t.Errorf("R2: %v", room)
	}
}

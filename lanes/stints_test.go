package lanes

import (
	"fmt"
	"math"
	"math/rand"
	"slices"
	"testing"

	"bulkhead/api"
)

// owners tells whose each tick of a short frame is.
func owners(stints []api.Stint, major int) []int {
	var out []int
	for _, s := range stints {
		for range max(s.Ticks, 0) {
			out = append(out, max(s.Subject, -1))
		}
	}
	for len(out) < major {
		out = append(out, -1)
	}
	return out[:max(major, 0)]
}

// holdStints holds At against the ticks of a short frame, at all offsets.
func holdStints(t *testing.T, stints []api.Stint, major int) {
	t.Helper()
	own := owners(stints, major)
	for offset := -2; offset <= max(major, 0)+2; offset++ {
		who, left := -1, 0
		if offset >= 0 && offset < major {
			who = own[offset]
			for left = 1; offset+left < major && own[offset+left] == who; left++ {
			}
		}
		if s, n := At(stints, major, offset); s != who || n != left {
			t.Fatalf("P9.10: %v, %d, %d: %d, %d, want %d, %d", stints, major, offset, s, n, who, left)
		}
	}
}

// TestShortStints: P9.10: all rows of up to three short stints.
func TestShortStints(t *testing.T) {
	var all []api.Stint
	for subject := -2; subject <= 1; subject++ {
		for ticks := -1; ticks <= 3; ticks++ {
			all = append(all, api.Stint{Subject: subject, Ticks: ticks})
		}
	}
	for major := -1; major <= 8; major++ {
		t.Run(fmt.Sprint(major), func(t *testing.T) {
			t.Parallel()
			holdStints(t, nil, major)
			for _, one := range all {
				holdStints(t, []api.Stint{one}, major)
				for _, two := range all {
					holdStints(t, []api.Stint{one, two}, major)
					for _, three := range all {
						holdStints(t, []api.Stint{one, two, three}, major)
					}
				}
			}
		})
	}
}

// TestStintsAtRandom: P9.10: longer rows.
func TestStintsAtRandom(t *testing.T) {
	t.Parallel()
	r := rand.New(rand.NewSource(910))
	for range 4000 {
		var stints []api.Stint
		for range r.Intn(12) {
			stints = append(stints, api.Stint{Subject: r.Intn(5) - 2, Ticks: r.Intn(7) - 1})
		}
		holdStints(t, stints, r.Intn(40))
	}
}

// TestFarStints: P9.10: the greatest and least numbers.
func TestFarStints(t *testing.T) {
	t.Parallel()
	const most, least = math.MaxInt, math.MinInt
	far := []api.Stint{{Subject: 3, Ticks: most - 2}, {Subject: most, Ticks: 1}, {Subject: 4, Ticks: most}, {Subject: 4, Ticks: most}, {Subject: 5, Ticks: 1}}
	for _, c := range []struct {
		stints                   []api.Stint
		major, offset, who, left int
	}{
		{far, most, 0, 3, most - 2},
		{far, most, most - 3, 3, 1},
		{far, most, most - 2, most, 1},
		{far, most, most - 1, 4, 1},
		{far, most, most, -1, 0},
		{far, 5, 2, 3, 3},
		{far, 5, 4, 3, 1},
		{far, 5, 5, -1, 0},
		{far, 0, 0, -1, 0},
		{far, -1, 0, -1, 0},
		{far, -1, -1, -1, 0},
		{far, least, least, -1, 0},
		{far, least, least + 1, -1, 0},
		{far, least, 0, -1, 0},
		{far, most, least, -1, 0},
		{far, most, -1, -1, 0},
		{nil, most, 7, -1, most - 7},
		{nil, most, most - 1, -1, 1},
		{nil, 1, 0, -1, 1},
		{[]api.Stint{{Subject: least, Ticks: 2}, {Subject: -7, Ticks: 1}}, 9, 1, -1, 8},
		{[]api.Stint{{Subject: 1, Ticks: least}, {Subject: 2, Ticks: 1}}, 9, 0, 2, 1},
		{[]api.Stint{{Subject: 1, Ticks: 2}, {Subject: 2, Ticks: least}, {Subject: 1, Ticks: most}}, 9, 1, 1, 8},
		{[]api.Stint{{Subject: 1, Ticks: 2}, {Subject: 1, Ticks: most}, {Subject: 1, Ticks: most}}, most, 1, 1, most - 1},
		{[]api.Stint{{Subject: 0, Ticks: 9}, {Subject: 0, Ticks: 9}, {Subject: 1, Ticks: 9}}, 9, 3, 0, 6},
	} {
		if who, left := At(c.stints, c.major, c.offset); who != c.who || left != c.left {
			t.Errorf("P9.10: %v, %d, %d: %d, %d, want %d, %d", c.stints, c.major, c.offset, who, left, c.who, c.left)
		}
	}
}

// TestAsSched: P9.10: the stints of a slot row tell what the slot row does.
func TestAsSched(t *testing.T) {
	t.Parallel()
	names := []string{"a", "b", "c", "d"}
	r := rand.New(rand.NewSource(4))
	for range 300 {
		major := uint64(1 + r.Intn(60))
		slots, _, why := Flatten(major, needsLane(needsAtRandom(r, major, 8, false)...))
		if why != api.OK {
			continue
		}
		var stints []api.Stint
		for _, s := range slots {
			stints = append(stints, api.Stint{Subject: slices.Index(names, s.Subject), Ticks: s.To - s.From})
		}
		before := slices.Clone(stints)
		for o := range int(major) {
			who, left := At(stints, int(major), o)
			if s, n := Sched(slots, o); slices.Index(names, s) != who || n != left {
				t.Fatalf("P9.10: %v at %d: %d, %d, and %q, %d", slots, o, who, left, s, n)
			}
		}
		if !slices.Equal(stints, before) {
			t.Fatalf("R2: %v, %v", stints, before)
		}
	}
}

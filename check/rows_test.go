package check

import (
	"errors"
	"fmt"
	"math"
	"strings"
	"testing"

	"bulkhead/api"
	"bulkhead/lanes"
)

// spoilt is one change to a policy and what Check answers then: with the
// number OK the place is not looked at.
type spoilt struct {
	what   string
	change func(p *api.Policy)
	place  func(p *api.Policy) int
	why    api.Errno
}

// fine is a change behind which nothing is wrong.
func fine(what string, change func(p *api.Policy)) spoilt {
	return spoilt{what, change, func(*api.Policy) int { return 0 }, api.OK}
}

func hold(t *testing.T, promise, src string, list []spoilt) {
	t.Helper()
	for _, c := range list {
		p := with(t, src, c.change)
		want := c.place(&p)
		if place, why := Check(p); place != want || why != c.why {
			t.Errorf("%s: %s: %d, %v, want %d, %v", promise, c.what, place, why, want, c.why)
		}
	}
}

// Places by lists.
func ram(i int) func(*api.Policy) int    { return func(p *api.Policy) int { return p.Rams[i].Pos } }
func device(i int) func(*api.Policy) int { return func(p *api.Policy) int { return p.Devices[i].Pos } }
func region(i int) func(*api.Policy) int { return func(p *api.Policy) int { return p.Regions[i].Pos } }
func subject(i int) func(*api.Policy) int {
	return func(p *api.Policy) int { return p.Subjects[i].Pos }
}
func channel(i int) func(*api.Policy) int {
	return func(p *api.Policy) int { return p.Channels[i].Pos }
}
func irq(i int) func(*api.Policy) int  { return func(p *api.Policy) int { return p.Irqs[i].Pos } }
func plan(i int) func(*api.Policy) int { return func(p *api.Policy) int { return p.Plans[i].Pos } }
func whole(p *api.Policy) int          { return p.Pos }
func master(p *api.Policy) int         { return p.Masters[0].Pos }
func startAt(p *api.Policy) int        { return p.Starts[0].Pos }

func mapping(s, i int) func(*api.Policy) int {
	return func(p *api.Policy) int { return p.Subjects[s].Maps[i].Pos }
}
func reach(i int) func(*api.Policy) int {
	return func(p *api.Policy) int { return p.Devices[0].Maps[i].Pos }
}
func rule(s int) func(*api.Policy) int {
	return func(p *api.Policy) int { return p.Subjects[s].Rules[0].Pos }
}
func lane(i int) func(*api.Policy) int {
	return func(p *api.Policy) int { return p.Plans[0].Lanes[i].Pos }
}
func run(l, i int) func(*api.Policy) int {
	return func(p *api.Policy) int { return p.Plans[0].Lanes[l].Runs[i].Pos }
}
func at(n int) func(*api.Policy) int { return func(*api.Policy) int { return n } }

// TestGood: P10.1: nothing is wrong.
func TestGood(t *testing.T) {
	t.Parallel()
	for _, src := range []string{good, small, `system s { plan p major 1 { } start p; }`} {
		if place, why := Check(policy(t, src)); place != 0 || why != api.OK {
			t.Errorf("P10.1: %d, %v: %s", place, why, src)
		}
	}
	if place, why := Check(api.Policy{Pos: -7}); place != -7 || why != api.ErrStart {
		t.Errorf("P10.1: of nothing: %d, %v", place, why)
	}
}

// TestNamesForm: P10.1, group 1, ErrForm.
func TestNamesForm(t *testing.T) {
	t.Parallel()
	hold(t, "P10.1", good, []spoilt{
		{"a device's name", func(p *api.Policy) { p.Devices[1].Name = "" }, device(1), api.ErrForm},
		{"a region's name", func(p *api.Policy) { p.Regions[4].Name = "f.00" }, region(4), api.ErrForm},
		{"a subject's name", func(p *api.Policy) { p.Subjects[2].Name = "c.7." }, subject(2), api.ErrForm},
		{"a channel's name", func(p *api.Policy) { p.Channels[0].Name = "channel" }, channel(0), api.ErrForm},
		{"an irq's name", func(p *api.Policy) { p.Irqs[1].Name = "1" }, irq(1), api.ErrForm},
		{"a plan's name", func(p *api.Policy) { p.Plans[0].Name = "p[0]" }, plan(0), api.ErrForm},
		{"a long name", func(p *api.Policy) { p.Irqs[0].Name = strings.Repeat("i", 33) }, irq(0), api.ErrForm},
		{"a long flat name", func(p *api.Policy) { p.Irqs[0].Name = "i" + strings.Repeat(".0", 32) }, irq(0), api.ErrForm},
		fine("no longer than it may be", func(p *api.Policy) { p.Irqs[0].Name = "ii" + strings.Repeat(".0", 31) }),
		fine("the system's name is not asked for", func(p *api.Policy) { p.Name = "1.x" }),
		{"an effect below", func(p *api.Policy) { p.Channels[1].How = 0 }, channel(1), api.ErrForm},
		{"an effect far below", func(p *api.Policy) { p.Channels[1].How = math.MinInt }, channel(1), api.ErrForm},
		{"an effect above", func(p *api.Policy) { p.Channels[1].How = api.ByStart + 1 }, channel(1), api.ErrForm},
		fine("start", func(p *api.Policy) { p.Channels[1].How = api.ByStart }),
		fine("reset", func(p *api.Policy) { p.Channels[1].How = api.ByReset }),
		{"a rule below", func(p *api.Policy) { p.Subjects[1].Rules[0].How = 0 }, rule(1), api.ErrForm},
		{"a rule that starts", func(p *api.Policy) { p.Subjects[1].Rules[0].How = api.ByStart }, rule(1), api.ErrForm},
		fine("a rule that resets", func(p *api.Policy) { p.Subjects[1].Rules[0].How = api.ByReset }),
		{"an At without Fixed", func(p *api.Policy) { p.Regions[0].At = 4096 }, region(0), api.ErrForm},
		{"a Text without Texted", func(p *api.Policy) { p.Regions[0].Text = "\x00" }, region(0), api.ErrForm},
		{"a Fill with Texted", func(p *api.Policy) { p.Regions[2].Fill = 1 }, region(2), api.ErrForm},
		fine("Texted, no text", func(p *api.Policy) { p.Regions[2].Text = "" }),
		{"an Over without Shared", func(p *api.Policy) { p.Channels[1].Over = "o" }, channel(1), api.ErrForm},
		{"a Vector of a channel that stops", func(p *api.Policy) { p.Channels[1].Vector = 1 }, channel(1), api.ErrForm},
		{"a To of a rule that stops", func(p *api.Policy) { p.Subjects[1].Rules[0].To = "a" }, rule(1), api.ErrForm},
		{"a Vector of a rule that resets", func(p *api.Policy) { p.Subjects[2].Rules[0].Vector = 64 }, rule(2), api.ErrForm},
		{"a Period of a run", func(p *api.Policy) { p.Plans[0].Lanes[0].Runs[1].Period = 1 }, run(0, 1), api.ErrForm},
	})
}

// TestNamesTwice: P10.1, group 1, ErrTwice: at the later one, which is not
// always the one behind.
func TestNamesTwice(t *testing.T) {
	t.Parallel()
	picks := func(places ...int) []api.Pick {
		var list []api.Pick
		for _, n := range places {
			list = append(list, api.Pick{Pos: n, Name: "a"})
		}
		return list
	}
	hold(t, "P10.1", good, []spoilt{
		{"two devices", func(p *api.Policy) { p.Devices[1].Name = "d" }, device(1), api.ErrTwice},
		{"two regions", func(p *api.Policy) { p.Regions[6].Name = "f.0" }, region(6), api.ErrTwice},
		{"a region and a device", func(p *api.Policy) { p.Regions[5].Name = "e" }, region(5), api.ErrTwice},
		{"a region and a device behind it", func(p *api.Policy) { p.Regions[5].Name, p.Regions[5].Pos, p.Devices[1].Pos = "e", 3, 4 }, at(4), api.ErrTwice},
		{"two subjects", func(p *api.Policy) { p.Subjects[1].Pos, p.Subjects[0].Pos, p.Subjects[0].Name = 5, 6, "b" }, at(6), api.ErrTwice},
		{"two channels", func(p *api.Policy) { p.Channels[1].Name = "c" }, channel(1), api.ErrTwice},
		{"two irqs", func(p *api.Policy) { p.Irqs[1].Name = "i" }, irq(1), api.ErrTwice},
		{"two plans", func(p *api.Policy) { p.Plans[0].Name = "z" }, plan(1), api.ErrTwice},
		fine("one name of all families", func(p *api.Policy) {
			p.Channels[0].Name, p.Irqs[0].Name, p.Plans[0].Name, p.Channels[1].Name = "a", "a", "a", "r"
		}),
		{"two lanes", func(p *api.Policy) { p.Plans[0].Lanes[1].CPU = 0 }, lane(1), api.ErrTwice},
		{"two lanes of a CPU that there isn't", func(p *api.Policy) { p.Plans[0].Lanes[0].CPU, p.Plans[0].Lanes[1].CPU = 1<<40, 1<<40 }, lane(1), api.ErrTwice},
		fine("lanes of two plans", func(p *api.Policy) { p.Plans[1].Lanes = []api.Lane{{CPU: 0}, {CPU: 1}} }),
		{"two starts", func(p *api.Policy) { p.Starts = append(p.Starts, api.Pick{Pos: 5, Name: "z"}) }, startAt, api.ErrTwice},
		{"two masters", func(p *api.Policy) { p.Masters = append(p.Masters, api.Pick{Pos: 5000, Name: "a"}) }, at(5000), api.ErrTwice},
		{"five masters: the second of all", func(p *api.Policy) { p.Masters = picks(40, 20, 30, 10, 20) }, at(20), api.ErrTwice},
		{"rising ones", func(p *api.Policy) { p.Masters = picks(10, 20, 30) }, at(20), api.ErrTwice},
		{"falling ones", func(p *api.Policy) { p.Masters = picks(30, 20, 10) }, at(20), api.ErrTwice},
		{"at one place", func(p *api.Policy) { p.Masters = picks(-1, -1) }, at(-1), api.ErrTwice},
		{"at the least place", func(p *api.Policy) { p.Masters = picks(math.MinInt, math.MinInt, 0) }, at(math.MinInt), api.ErrTwice},
		{"two rules", func(p *api.Policy) {
			p.Subjects[1].Rules = append(p.Subjects[1].Rules, api.Rule{Pos: 1 << 20, How: api.ByReset})
		}, at(1 << 20), api.ErrTwice},
		{"two rules, the first one behind", func(p *api.Policy) {
			p.Subjects[1].Rules = append(p.Subjects[1].Rules, api.Rule{How: api.ByReset})
		}, rule(1), api.ErrTwice},
	})
}

// TestNamesNone: P10.1, group 1, ErrName.
func TestNamesNone(t *testing.T) {
	t.Parallel()
	hold(t, "P10.1", good, []spoilt{
		{"a map of nothing", func(p *api.Policy) { p.Subjects[2].Maps[1].Of = "x" }, mapping(2, 1), api.ErrName},
		{"a map of a subject", func(p *api.Policy) { p.Subjects[2].Maps[1].Of = "a" }, mapping(2, 1), api.ErrName},
		{"a map of an empty name", func(p *api.Policy) { p.Subjects[2].Maps[1].Of = "" }, mapping(2, 1), api.ErrName},
		{"a device's map of nothing", func(p *api.Policy) { p.Devices[0].Maps[1].Of = "x" }, reach(1), api.ErrName},
		{"a device's map of a device", func(p *api.Policy) { p.Devices[0].Maps[1].Of = "e" }, reach(1), api.ErrName},
		{"a rule that tells nobody", func(p *api.Policy) { p.Subjects[0].Rules[0].To = "" }, rule(0), api.ErrName},
		{"a rule that tells a device", func(p *api.Policy) { p.Subjects[0].Rules[0].To = "d" }, rule(0), api.ErrName},
		{"a channel from nobody", func(p *api.Policy) { p.Channels[0].From = "r" }, channel(0), api.ErrName},
		{"a channel to nobody", func(p *api.Policy) { p.Channels[1].To = "c" }, channel(1), api.ErrName},
		{"a channel over a device", func(p *api.Policy) { p.Channels[0].Over = "d" }, channel(0), api.ErrName},
		{"a channel over nothing", func(p *api.Policy) { p.Channels[0].Over = "" }, channel(0), api.ErrName},
		{"an irq from a region", func(p *api.Policy) { p.Irqs[1].From = "r" }, irq(1), api.ErrName},
		{"an irq to a plan", func(p *api.Policy) { p.Irqs[1].To = "p" }, irq(1), api.ErrName},
		{"a run of nobody", func(p *api.Policy) { p.Plans[0].Lanes[0].Runs[2].Subject = "c" }, run(0, 2), api.ErrName},
		{"a need of nobody", func(p *api.Policy) { p.Plans[0].Lanes[1].Runs[1].Subject = "d" }, run(1, 1), api.ErrName},
		{"a master that is none", func(p *api.Policy) { p.Masters[0].Name = "p" }, master, api.ErrName},
		{"a master without a name", func(p *api.Policy) { p.Masters[0].Name = "" }, master, api.ErrName},
		{"a start that is none", func(p *api.Policy) { p.Starts[0].Name = "a" }, startAt, api.ErrName},
		{"a name of a region and a device is both's", func(p *api.Policy) {
			p.Regions[0].Name, p.Irqs[0].From, p.Irqs[1].From = "d", "d", "d"
			p.Devices[0].Maps[0].Of, p.Subjects[0].Maps[0].Of, p.Subjects[1].Maps[0].Of = "d", "d", "d"
		}, region(0), api.ErrTwice},
	})
}

// TestHowMany: P10.1, group 2: the last one that may be, and the next.
func TestHowMany(t *testing.T) {
	t.Parallel()
	// The places fall: so it is the list that counts.
	grow := []struct {
		what string
		most int
		add  func(p *api.Policy, i, pos int)
		len  func(p *api.Policy) int
	}{
		{"rams", 8, func(p *api.Policy, i, pos int) {
			p.Rams = append(p.Rams, api.Ram{Pos: pos, At: 1<<28 + uint64(i)<<13, Size: 4096})
		}, func(p *api.Policy) int { return len(p.Rams) }},
		{"devices", 32, func(p *api.Policy, i, pos int) {
			p.Devices = append(p.Devices, api.Device{Pos: pos, Name: fmt.Sprint("n.", i), At: 1<<28 + uint64(i)<<13, Size: 4096})
		}, func(p *api.Policy) int { return len(p.Devices) }},
		{"regions", 256, func(p *api.Policy, i, pos int) {
			p.Regions = append(p.Regions, api.Region{Pos: pos, Name: fmt.Sprint("n.", i), Size: 4096})
		}, func(p *api.Policy) int { return len(p.Regions) }},
		{"subjects", 64, func(p *api.Policy, i, pos int) {
			p.Subjects = append(p.Subjects, api.Subject{Pos: pos, Name: fmt.Sprint("n.", i)})
		}, func(p *api.Policy) int { return len(p.Subjects) }},
		{"channels", 256, func(p *api.Policy, i, pos int) {
			p.Channels = append(p.Channels, api.Channel{Pos: pos, Name: fmt.Sprint("n.", i), From: "a", To: "b", How: api.ByReset})
		}, func(p *api.Policy) int { return len(p.Channels) }},
		{"irqs", 64, func(p *api.Policy, i, pos int) {
			p.Irqs = append(p.Irqs, api.IrqLine{Pos: pos, Name: fmt.Sprint("n.", i), From: "d", To: "b"})
		}, func(p *api.Policy) int { return len(p.Irqs) }},
		{"plans", 16, func(p *api.Policy, i, pos int) {
			p.Plans = append(p.Plans, api.Plan{Pos: pos, Name: fmt.Sprint("n.", i), Major: 1})
		}, func(p *api.Policy) int { return len(p.Plans) }},
		{"a subject's maps", 64, func(p *api.Policy, i, pos int) {
			p.Subjects[1].Maps = append(p.Subjects[1].Maps, api.Map{Pos: pos, Of: "r", At: 1<<30 + uint64(i)<<13})
		}, func(p *api.Policy) int { return len(p.Subjects[1].Maps) }},
		{"a device's maps", 64, func(p *api.Policy, i, pos int) {
			p.Devices[1].Maps = append(p.Devices[1].Maps, api.Map{Pos: pos, Of: "r", At: 1<<30 + uint64(i)<<13})
		}, func(p *api.Policy) int { return len(p.Devices[1].Maps) }},
	}
	for _, g := range grow {
		for more := range 3 {
			p := policy(t, good)
			for i := g.len(&p); i < g.most+more; i++ {
				g.add(&p, i, 5000-i)
			}
			want, number := 0, api.OK
			if more > 0 {
				want, number = 5000-g.most, api.ErrMany
			}
			if place, why := Check(p); place != want || why != number {
				t.Errorf("P10.1: %s: %d: %d, %v, want %d, %v", g.what, g.most+more, place, why, want, number)
			}
		}
	}
}

// TestBus: P10.1, group 3.
func TestBus(t *testing.T) {
	t.Parallel()
	const most = math.MaxUint64
	hold(t, "P10.1", good, []spoilt{
		{"a ram's place", func(p *api.Policy) { p.Rams[0].At++ }, ram(0), api.ErrAlign},
		{"a ram's size", func(p *api.Policy) { p.Rams[2].Size += 2048 }, ram(2), api.ErrAlign},
		{"a window's place", func(p *api.Policy) { p.Devices[0].At = most }, device(0), api.ErrAlign},
		{"a window's size", func(p *api.Policy) { p.Devices[0].Size-- }, device(0), api.ErrAlign},
		{"a ram of nothing", func(p *api.Policy) { p.Rams[1].Size = 0 }, ram(1), api.ErrSize},
		{"a window of nothing", func(p *api.Policy) { p.Devices[1].Size = 0 }, device(1), api.ErrSize},
		{"a window too large", func(p *api.Policy) { p.Devices[1].Size += 4096 }, device(1), api.ErrSize},
		{"a window much too large", func(p *api.Policy) { p.Devices[1].Size = most - 4095 }, device(1), api.ErrSize},
		fine("RAM up to the end", func(p *api.Policy) { p.Rams = append(p.Rams, api.Ram{At: 1<<32 - 4096, Size: 4096}) }),
		{"RAM beyond the end", func(p *api.Policy) { p.Rams = append(p.Rams, api.Ram{At: 1<<32 - 4096, Size: 8192}) }, at(0), api.ErrPhys},
		{"RAM behind the end", func(p *api.Policy) { p.Rams = append(p.Rams, api.Ram{At: 1 << 32, Size: 4096}) }, at(0), api.ErrPhys},
		{"RAM over the wrap", func(p *api.Policy) { p.Rams = append(p.Rams, api.Ram{At: most - 4095, Size: 8192}) }, at(0), api.ErrPhys},
		{"RAM up to the wrap", func(p *api.Policy) { p.Rams = append(p.Rams, api.Ram{At: most - 4095, Size: 4096}) }, at(0), api.ErrPhys},
		fine("a window up to the end", func(p *api.Policy) { p.Devices[1].At = 1<<32 - 1<<20 }),
		{"a window beyond the end", func(p *api.Policy) { p.Devices[1].At = 1<<32 - 1<<20 + 4096 }, device(1), api.ErrPhys},
		{"a window far behind", func(p *api.Policy) { p.Devices[1].At = most - 4095 }, device(1), api.ErrPhys},
		{"rams that meet", func(p *api.Policy) { p.Rams[1].At -= 4096 }, ram(1), api.ErrOverlap},
		{"rams that meet, the first one behind", func(p *api.Policy) { p.Rams[1].At -= 4096; p.Rams[0].Pos = 30; p.Rams[1].Pos = 29 }, at(30), api.ErrOverlap},
		{"windows that meet", func(p *api.Policy) { p.Devices[1].At = p.Devices[0].At }, device(1), api.ErrOverlap},
		{"a window in RAM", func(p *api.Policy) { p.Devices[0].At = 9 << 20 }, device(0), api.ErrOverlap},
		{"RAM around a window", func(p *api.Policy) { p.Rams = append(p.Rams, api.Ram{Pos: 1 << 20, At: 0xefff0000, Size: 1 << 20}) }, at(1 << 20), api.ErrOverlap},
		fine("a window beside RAM", func(p *api.Policy) { p.Devices[0].At = 0x30000 }),
		fine("as much RAM as may be", func(p *api.Policy) {
			p.Rams = append(p.Rams, api.Ram{At: 1 << 28, Size: 1<<26 - 8<<20 - 128<<10})
		}),
		{"more RAM", func(p *api.Policy) {
			p.Rams = append(p.Rams, api.Ram{Pos: 9000, At: 1 << 28, Size: 1<<26 - 8<<20 - 128<<10 + 4096})
		}, at(9000), api.ErrRam},
		{"those behind have more, too", func(p *api.Policy) {
			p.Rams = append(p.Rams, api.Ram{Pos: 9000, At: 1 << 28, Size: 1 << 26}, api.Ram{Pos: 8000, At: 1 << 29, Size: 4096})
		}, at(8000), api.ErrRam},
		{"a sum that leaves 64 bits", func(p *api.Policy) {
			p.Rams = []api.Ram{{Pos: 5, At: 0, Size: 1 << 63}, {Pos: 4, At: 1 << 20, Size: 1 << 63}, {Pos: 3, At: 1 << 31, Size: 4096}}
		}, at(3), api.ErrRam},
		{"a place, ahead of a size", func(p *api.Policy) { p.Rams[1].At, p.Rams[1].Size = 1, 0 }, ram(1), api.ErrAlign},
		{"a size, ahead of the end", func(p *api.Policy) { p.Rams[1].At, p.Rams[1].Size = 1<<33, 0 }, ram(1), api.ErrSize},
		{"the end, ahead of a meeting", func(p *api.Policy) { p.Rams[1].At, p.Rams[1].Size = 0, most-4095 }, ram(1), api.ErrPhys},
		{"a meeting, ahead of the sum", func(p *api.Policy) { p.Rams[1].At, p.Rams[1].Size = 0, 1<<27 }, ram(1), api.ErrOverlap},
	})
}

// TestRegions: P10.1, group 4. Regions 0 r, 1 q, 2 o, 3 h (big), 4 to 6 f, 7 g
// (big), 8 n, which nobody maps.
func TestRegions(t *testing.T) {
	t.Parallel()
	const most = math.MaxUint64
	text := func(i int, size uint64, n int) func(p *api.Policy) {
		return func(p *api.Policy) {
			r := &p.Regions[i]
			r.Fixed, r.At, r.Fill, r.Texted, r.Size, r.Text = false, 0, 0, true, size, strings.Repeat("t", n)
		}
	}
	hold(t, "P10.1", good, []spoilt{
		{"a size", func(p *api.Policy) { p.Regions[0].Size++ }, region(0), api.ErrAlign},
		{"a place", func(p *api.Policy) { p.Regions[4].At += 2048 }, region(4), api.ErrAlign},
		{"a big one's size", func(p *api.Policy) { p.Regions[3].Size = 3 << 20 }, region(3), api.ErrAlign},
		{"a big one's place", func(p *api.Policy) { p.Regions[3].At += 4096 }, region(3), api.ErrAlign},
		{"no size", func(p *api.Policy) { p.Regions[0].Size = 0 }, region(0), api.ErrSize},
		fine("the largest one", func(p *api.Policy) { p.Regions[8].Size = 1 << 26 }),
		{"one page larger", func(p *api.Policy) { p.Regions[0].Size = 1<<26 + 4096 }, region(0), api.ErrSize},
		{"a big one larger", func(p *api.Policy) { p.Regions[7].Size = 1<<26 + 1<<21 }, region(7), api.ErrSize},
		{"the largest number", func(p *api.Policy) { p.Regions[0].Size = most - 4095 }, region(0), api.ErrSize},
		fine("over rams that touch", func(p *api.Policy) { p.Regions[4].At, p.Regions[4].Size, p.Regions[1].At = 0x1e000, 0x4000, 0x10000 }),
		fine("up to the end of a ram", func(p *api.Policy) { p.Regions[1].At = 0x2e000 }),
		fine("from the beginning of a ram", func(p *api.Policy) { p.Regions[1].At = 0x10000 }),
		{"beyond the end of a ram", func(p *api.Policy) { p.Regions[1].At = 0x2f000 }, region(1), api.ErrOutside},
		{"ahead of a ram", func(p *api.Policy) { p.Regions[1].At = 0xf000 }, region(1), api.ErrOutside},
		{"in a window", func(p *api.Policy) { p.Regions[1].At = 0xf0100000 }, region(1), api.ErrOutside},
		{"around a ram", func(p *api.Policy) { p.Regions[1].Fill, p.Regions[1].At, p.Regions[1].Size = 0, 0, 8<<20 }, region(1), api.ErrOutside},
		{"over the wrap", func(p *api.Policy) { p.Regions[1].At = most - 4095 }, region(1), api.ErrOutside},
		{"over the wrap, up to a ram's", func(p *api.Policy) {
			p.Rams[0].At, p.Rams[0].Size = 0, 0x20000
			p.Regions[1].At = most - 4095
		}, region(1), api.ErrOutside},
		fine("not fixed, and larger than all RAM", func(p *api.Policy) { p.Regions[8].Size = 1 << 25 }),
		{"two that meet", func(p *api.Policy) { p.Regions[5].At = 0x13000 }, region(5), api.ErrOverlap},
		{"two that meet, the other way round", func(p *api.Policy) { p.Regions[4].Pos = 9999; p.Regions[5].At = 0x13000 }, at(9999), api.ErrOverlap},
		{"one in another", func(p *api.Policy) { p.Regions[6].At, p.Regions[6].Size = 10<<20+4096, 4096 }, region(6), api.ErrOverlap},
		{"at one place", func(p *api.Policy) { p.Regions[5].At = 0x12000 }, region(5), api.ErrOverlap},
		fine("not fixed, they do not meet", func(p *api.Policy) { p.Regions[4].Fixed, p.Regions[4].At = false, 0; p.Regions[5].At = 0x13000 }),
		fine("a byte", func(p *api.Policy) { p.Regions[0].Fill = 255 }),
		{"no byte", func(p *api.Policy) { p.Regions[0].Fill = 256 }, region(0), api.ErrFill},
		{"a number whose lowest byte is 0", func(p *api.Policy) { p.Regions[0].Fill = 1 << 40 }, region(0), api.ErrFill},
		fine("a text as long as the region", text(8, 4096, 4096)),
		{"a text that is longer", text(8, 4096, 4097), region(8), api.ErrFill},
		fine("the longest text", text(8, 1<<21, 1<<20)),
		{"one byte longer", text(8, 1<<21, 1<<20+1), region(8), api.ErrFill},
		fine("as much as may be filled", func(p *api.Policy) { p.Regions[8].Fill, p.Regions[8].Size = 1, 1<<20 }),
		{"one page more", func(p *api.Policy) { p.Regions[8].Fill, p.Regions[8].Size = 1, 1<<20+4096 }, region(8), api.ErrFill},
		fine("filled with zeros", func(p *api.Policy) { p.Regions[8].Size = 1 << 25 }),
		{"a place, ahead of a size", func(p *api.Policy) { p.Regions[4].At, p.Regions[4].Size = 1, 0 }, region(4), api.ErrAlign},
		{"a size, ahead of the outside", func(p *api.Policy) { p.Regions[4].At, p.Regions[4].Size = 0, 1<<27 }, region(4), api.ErrSize},
		{"no byte is outside", func(p *api.Policy) { p.Regions[4].At, p.Regions[4].Size = 0, 0 }, region(4), api.ErrSize},
		{"the outside, ahead of a meeting", func(p *api.Policy) { p.Regions[5].At, p.Regions[5].Size = 0x13000, 1<<20 }, region(5), api.ErrOutside},
		{"a meeting, ahead of the fill", func(p *api.Policy) { p.Regions[5].At, p.Regions[5].Fill = 0x13000, 256 }, region(5), api.ErrOverlap},
	})
}

// TestMaps: P10.1, group 5. Subject 0 maps r, q (wx), o, d; 1 maps r, o, h
// (big); 2 maps g.0 (big), e.
func TestMaps(t *testing.T) {
	t.Parallel()
	const most = math.MaxUint64
	hold(t, "P10.1", good, []spoilt{
		{"a place", func(p *api.Policy) { p.Subjects[0].Maps[3].At++ }, mapping(0, 3), api.ErrAlign},
		{"a big one's place", func(p *api.Policy) { p.Subjects[1].Maps[2].At += 4096 }, mapping(1, 2), api.ErrAlign},
		{"a device's map's place", func(p *api.Policy) { p.Devices[0].Maps[1].At = 1 }, reach(1), api.ErrAlign},
		fine("up to the end", func(p *api.Policy) { p.Subjects[0].Maps[0].At = 1<<39 - 8192 }),
		{"beyond the end", func(p *api.Policy) { p.Subjects[0].Maps[0].At = 1<<39 - 4096 }, mapping(0, 0), api.ErrHole},
		{"a window beyond the end", func(p *api.Policy) { p.Subjects[2].Maps[1].At = 1<<39 - 4096 }, mapping(2, 1), api.ErrHole},
		{"behind the end", func(p *api.Policy) { p.Subjects[0].Maps[0].At = 1 << 39 }, mapping(0, 0), api.ErrHole},
		{"over the wrap", func(p *api.Policy) { p.Subjects[0].Maps[0].At = most - 4095 }, mapping(0, 0), api.ErrHole},
		{"a device's map beyond the end", func(p *api.Policy) { p.Devices[0].Maps[0].At = 1<<39 - 4096 }, reach(0), api.ErrHole},
		{"two that meet", func(p *api.Policy) { p.Subjects[0].Maps[1].At = 0x2000 }, mapping(0, 1), api.ErrOverlap},
		{"two that meet, the first one behind", func(p *api.Policy) { p.Subjects[0].Maps[1].At = 0; p.Subjects[0].Maps[0].Pos = 9999 }, at(9999), api.ErrOverlap},
		{"two of a device", func(p *api.Policy) { p.Devices[0].Maps[1].At = 0x1000 }, reach(1), api.ErrOverlap},
		{"one region at one place", func(p *api.Policy) { p.Subjects[0].Maps[1] = p.Subjects[0].Maps[0]; p.Subjects[0].Maps[1].Pos++ },
			func(p *api.Policy) int { return p.Subjects[0].Maps[0].Pos + 1 }, api.ErrOverlap},
		fine("one region at two places", func(p *api.Policy) {
			p.Subjects[0].Maps[1] = p.Subjects[0].Maps[0]
			p.Subjects[0].Maps[1].At += 8192
		}),
		fine("of two subjects", func(p *api.Policy) { p.Subjects[2].Maps[1].At = 4 << 20 }),
		{"written and fetched from", func(p *api.Policy) { p.Subjects[0].Maps[0].Exec = true }, mapping(0, 0), api.ErrWX},
		{"a window, written and fetched from", func(p *api.Policy) { p.Subjects[2].Maps[1].Exec = true }, mapping(2, 1), api.ErrWX},
		fine("a window, fetched from", func(p *api.Policy) { p.Subjects[0].Maps[3].Exec = true }),
		{"without wx", func(p *api.Policy) { p.Regions[1].Wx = false }, mapping(0, 1), api.ErrWX},
		{"a device fetches", func(p *api.Policy) { p.Devices[0].Maps[0].Write, p.Devices[0].Maps[0].Exec = false, true }, reach(0), api.ErrWX},
		{"a device fetches from wx", func(p *api.Policy) { p.Devices[0].Maps[1].Exec = true }, reach(1), api.ErrWX},
		{"a place, ahead of the end", func(p *api.Policy) { p.Subjects[0].Maps[0].At = 1<<39 - 1 }, mapping(0, 0), api.ErrAlign},
		{"the end, ahead of a meeting", func(p *api.Policy) {
			p.Subjects[0].Maps[1].At = 1<<39 - 4096
			p.Subjects[0].Maps[0].At = 1<<39 - 8192
		}, mapping(0, 1), api.ErrHole},
		{"a meeting, ahead of wx", func(p *api.Policy) { p.Subjects[0].Maps[1].At = 0x2000; p.Regions[1].Wx = false }, mapping(0, 1), api.ErrOverlap},
	})
}

// TestMappedPages: P10.1, group 5, ErrMany: the pages of all maps, the
// subjects' ahead of the devices'.
func TestMappedPages(t *testing.T) {
	t.Parallel()
	base := func(devices bool) api.Policy {
		p := policy(t, `system s {
			ram 0 size 64K; device d at 1M size 4K; region r size 64M big; region o size 4K;
			subject a cpu 0 { each i in 0 .. 4 { map r at i << 26; } }
			subject b cpu 0 { each i in 0 .. 4 { map r at i << 26; } }
			plan p major 1 { } start p;
		}`)
		if devices {
			p.Devices[0].Maps = []api.Map{{Pos: 3, Of: "o", At: 0}}
		}
		return p
	}
	p := base(false)
	if place, why := Check(p); place != 0 || why != api.OK {
		t.Errorf("P10.1: 2^17 pages: %d, %v", place, why)
	}
	p = base(true)
	if place, why := Check(p); place != 3 || why != api.ErrMany {
		t.Errorf("P10.1: a device's map behind 2^17 pages: %d, %v", place, why)
	}
	p = base(true)
	p.Subjects[0].Maps = p.Subjects[0].Maps[1:]
	if place, why := Check(p); place != 0 || why != api.OK {
		t.Errorf("P10.1: a device's map among 2^17 pages: %d, %v", place, why)
	}
	p = base(false)
	p.Subjects[0].Maps = append(p.Subjects[0].Maps, api.Map{Pos: 8, Of: "o", At: 1 << 38})
	if place, why := Check(p); place != p.Subjects[1].Maps[3].Pos || why != api.ErrMany {
		t.Errorf("P10.1: a page more: %d, %v", place, why)
	}
	p.Subjects[1].Maps = append(p.Subjects[1].Maps, api.Map{Pos: 7, Of: "o", At: 1 << 38})
	if place, why := Check(p); place != 7 || why != api.ErrMany {
		t.Errorf("P10.1: a page more, and one behind: %d, %v", place, why)
	}
}

// TestWho: P10.1, group 6.
func TestWho(t *testing.T) {
	t.Parallel()
	const most = math.MaxUint64
	third := func(p *api.Policy) {
		p.Subjects[2].Maps = append(p.Subjects[2].Maps, api.Map{Of: "o", At: 1 << 32})
	}
	hold(t, "P10.1", good, []spoilt{
		fine("the last CPU", func(p *api.Policy) { p.Subjects[2].CPU = 3; p.Plans[0].Lanes[0].Runs[2].Subject = "" }),
		{"a CPU that there isn't", func(p *api.Policy) { p.Subjects[2].CPU = 4 }, subject(2), api.ErrCPU},
		{"the greatest CPU", func(p *api.Policy) { p.Subjects[2].CPU = most }, subject(2), api.ErrCPU},
		fine("the last vector of an irq", func(p *api.Policy) { p.Irqs[1].Vector = 63 }),
		{"an irq's vector", func(p *api.Policy) { p.Irqs[1].Vector = 64 }, irq(1), api.ErrVector},
		{"a rule's vector", func(p *api.Policy) { p.Subjects[0].Rules[0].Vector = 64 }, rule(0), api.ErrVector},
		fine("the last vector of a channel", func(p *api.Policy) { p.Channels[0].Vector = 63 }),
		{"a channel's vector", func(p *api.Policy) { p.Channels[0].Vector = 64 }, channel(0), api.ErrVector},
		{"the greatest vector", func(p *api.Policy) { p.Channels[0].Vector = most }, channel(0), api.ErrVector},
		{"a channel to itself", func(p *api.Policy) { p.Channels[1].To = "b" }, channel(1), api.ErrEnds},
		{"a rule that tells its own", func(p *api.Policy) { p.Subjects[0].Rules[0].To = "a" }, rule(0), api.ErrEnds},
		{"the writer maps it not", func(p *api.Policy) { p.Subjects[0].Maps[2].Of = "f.0" }, channel(0), api.ErrShared},
		{"the reader maps it not", func(p *api.Policy) { p.Subjects[1].Maps[1].Of = "f.0" }, channel(0), api.ErrShared},
		{"the reader writes", func(p *api.Policy) { p.Subjects[1].Maps[1].Write = true }, channel(0), api.ErrShared},
		{"a third one maps it", third, channel(0), api.ErrShared},
		{"a device maps it", func(p *api.Policy) { p.Devices[0].Maps[1].Of = "o" }, channel(0), api.ErrShared},
		{"the other way round", func(p *api.Policy) { p.Channels[0].From, p.Channels[0].To = "b", "a" }, channel(0), api.ErrShared},
		fine("the writer need not write", func(p *api.Policy) { p.Subjects[0].Maps[2].Write = false }),
		fine("mapped twice by both", func(p *api.Policy) {
			for i := range 2 {
				p.Subjects[i].Maps = append(p.Subjects[i].Maps, api.Map{Of: "o", At: 1 << 32})
			}
		}),
		{"mapped twice by the reader, once for writing", func(p *api.Policy) {
			p.Subjects[1].Maps = append(p.Subjects[1].Maps, api.Map{Of: "o", At: 1 << 32, Write: true})
		}, channel(0), api.ErrShared},
		fine("not shared, it is anybody's", func(p *api.Policy) { third(p); p.Channels[0].Shared, p.Channels[0].Over = false, "" }),
		fine("two channels over one region", func(p *api.Policy) {
			p.Channels[0].Shared = true
			p.Channels = append(p.Channels, p.Channels[0])
			p.Channels[2].Name = "l"
		}),
		{"a vector, ahead of the ends", func(p *api.Policy) { p.Channels[0].Vector, p.Channels[0].To = 64, "a" }, channel(0), api.ErrVector},
		{"the ends, ahead of the region", func(p *api.Policy) { p.Channels[0].To = "a" }, channel(0), api.ErrEnds},
		{"a CPU, ahead of a vector", func(p *api.Policy) { p.Subjects[0].CPU, p.Irqs[0].Vector = 4, 64; p.Irqs[0].Pos = p.Subjects[0].Pos }, subject(0), api.ErrCPU},
	})
}

// TestPlans: P10.1, group 7. Plan 0 has the lanes of CPU 0 (a 3, idle 2, c.7
// 1) and 1 (b 1 every 4, b 1 every 3) in 12 ticks.
func TestPlans(t *testing.T) {
	t.Parallel()
	hold(t, "P10.1", good, []spoilt{
		{"no start", func(p *api.Policy) { p.Starts = nil }, whole, api.ErrStart},
		{"no start, no plan", func(p *api.Policy) { p.Plans, p.Starts = nil, []api.Pick{} }, whole, api.ErrStart},
		{"no master", func(p *api.Policy) { p.Masters = nil }, plan(1), api.ErrMaster},
		{"no master, the second plan ahead", func(p *api.Policy) { p.Masters = nil; p.Plans[1].Pos = 4 }, at(4), api.ErrMaster},
		fine("no master, one plan", func(p *api.Policy) { p.Masters = nil; p.Plans = p.Plans[1:] }),
		fine("a master, one plan", func(p *api.Policy) { p.Plans = p.Plans[1:] }),
		{"no frame", func(p *api.Policy) { p.Plans[1].Major = 0 }, plan(1), api.ErrMajor},
		fine("the longest frame", func(p *api.Policy) { p.Plans[1].Major = 65536 }),
		{"a longer frame", func(p *api.Policy) { p.Plans[1].Major = 65537 }, plan(1), api.ErrMajor},
		{"lanes are not looked at then", func(p *api.Policy) {
			p.Plans[0].Major, p.Plans[0].Lanes[0].CPU, p.Plans[0].Lanes[0].Pos = 0, 9, 1
			p.Plans[0].Lanes[0].Runs[0].Budget, p.Plans[0].Lanes[0].Runs[0].Pos = 0, 2
		}, plan(0), api.ErrMajor},
		fine("the last CPU", func(p *api.Policy) { p.Plans[1].Lanes = []api.Lane{{CPU: 3}} }),
		{"a lane's CPU", func(p *api.Policy) { p.Plans[1].Lanes = []api.Lane{{Pos: 6, CPU: 4}} }, at(6), api.ErrCPU},
		{"a run on another CPU", func(p *api.Policy) { p.Plans[0].Lanes[0].Runs[2].Subject = "b" }, run(0, 2), api.ErrCPU},
		{"a need on another CPU", func(p *api.Policy) { p.Plans[0].Lanes[1].Runs[0].Subject = "a" }, run(1, 0), api.ErrCPU},
		{"lanes exchanged", func(p *api.Policy) { p.Plans[0].Lanes[0].CPU, p.Plans[0].Lanes[1].CPU = 1, 0 }, run(0, 0), api.ErrCPU},
		{"a run, ahead of its lane", func(p *api.Policy) { p.Plans[0].Lanes[0].CPU = 4; p.Plans[0].Lanes[0].Runs[2].Pos = 2 }, at(2), api.ErrCPU},
		{"no budget", func(p *api.Policy) { p.Plans[0].Lanes[0].Runs[1].Budget = 0 }, run(0, 1), api.ErrBudget},
		{"more than the frame", func(p *api.Policy) { p.Plans[0].Lanes[0].Runs[1].Budget = 13 }, run(0, 1), api.ErrBudget},
		{"a need of nobody", func(p *api.Policy) { p.Plans[0].Lanes[1].Runs[1].Subject = "" }, run(1, 1), api.ErrName},
		{"a period", func(p *api.Policy) { p.Plans[0].Lanes[1].Runs[0].Period = 5 }, run(1, 0), api.ErrPeriod},
		{"too much", func(p *api.Policy) { p.Plans[0].Lanes[0].Runs[2].Budget = 8 }, run(0, 2), api.ErrDemand},
		fine("all that there is", func(p *api.Policy) { p.Plans[0].Lanes[0].Runs[2].Budget = 7 }),
		{"one refusal a lane, the first in the lane", func(p *api.Policy) {
			p.Plans[0].Lanes[0].Runs[2].Budget, p.Plans[0].Lanes[0].Runs[0].Budget = 0, 0
			p.Plans[0].Lanes[0].Runs[2].Pos = 1
		}, run(0, 0), api.ErrBudget},
		{"of two lanes the lower place", func(p *api.Policy) {
			p.Plans[0].Lanes[0].Runs[2].Budget, p.Plans[0].Lanes[1].Runs[1].Period = 0, 5
			p.Plans[0].Lanes[1].Runs[1].Pos = 1
		}, at(1), api.ErrPeriod},
		{"of two lanes at one place the number", func(p *api.Policy) {
			p.Plans[0].Lanes[0].Runs[2].Budget, p.Plans[0].Lanes[1].Runs[1].Budget = 8, 0
			p.Plans[0].Lanes[0].Runs[2].Pos, p.Plans[0].Lanes[1].Runs[1].Pos = 1, 1
		}, at(1), api.ErrBudget},
		{"of two lanes at one place the number, again", func(p *api.Policy) {
			p.Plans[0].Lanes[0].Runs[2].Budget, p.Plans[0].Lanes[1].Runs[1].Subject = 8, ""
			p.Plans[0].Lanes[0].Runs[2].Pos, p.Plans[0].Lanes[1].Runs[1].Pos = 1, 1
		}, at(1), api.ErrName},
		{"a refusal ahead of a lane's CPU", func(p *api.Policy) {
			p.Plans[0].Lanes[0].Runs[1].Budget, p.Plans[0].Lanes[0].Runs[1].Pos = 0, 3
			p.Plans[0].Lanes[0].CPU = 7
		}, at(3), api.ErrBudget},
		{"a refusal at a lane's own place", func(p *api.Policy) {
			p.Plans[0].Lanes[0].Runs[1].Budget, p.Plans[0].Lanes[0].Runs[1].Pos = 0, 3
			p.Plans[0].Lanes[0].CPU, p.Plans[0].Lanes[0].Pos = 7, 3
		}, at(3), api.ErrCPU},
		{"too many slots", func(p *api.Policy) {
			p.Plans[0].Major, p.Plans[0].Lanes[1].Runs = 8196, []api.Run{{Pos: 2, Subject: "b", Budget: 1, Period: 4}}
		}, lane(1), api.ErrMany},
		fine("as many as may be", func(p *api.Policy) {
			p.Plans[0].Major, p.Plans[0].Lanes[1].Runs = 8192, []api.Run{{Pos: 2, Subject: "b", Budget: 1, Period: 4}}
		}),
		{"no start, ahead of no master", func(p *api.Policy) { p.Starts, p.Masters = nil, nil; p.Plans[1].Pos = p.Pos }, whole, api.ErrStart},
		{"no master, ahead of no frame", func(p *api.Policy) { p.Masters = nil; p.Plans[1].Major = 0 }, plan(1), api.ErrMaster},
		{"no frame, ahead of a CPU", func(p *api.Policy) {
			p.Plans[1].Major = 0
			p.Plans[0].Lanes = []api.Lane{{Pos: p.Plans[1].Pos, CPU: 4}}
		}, plan(1), api.ErrMajor},
	})
}

// TestGroupsInOrder: P10.1: an earlier group is told, wherever the later one's
// place is.
func TestGroupsInOrder(t *testing.T) {
	t.Parallel()
	wrongs := []struct {
		change func(p *api.Policy)
		why    api.Errno
	}{
		{func(p *api.Policy) { p.Irqs[1].To, p.Irqs[1].Pos = "x", 900 }, api.ErrName},
		{func(p *api.Policy) {
			for i := range 64 {
				p.Irqs = append(p.Irqs, api.IrqLine{Pos: 800, Name: fmt.Sprint("n.", i), From: "d", To: "a"})
			}
		}, api.ErrMany},
		{func(p *api.Policy) { p.Rams[2].Size, p.Rams[2].Pos = 1<<26, 700 }, api.ErrRam},
		{func(p *api.Policy) { p.Regions[0].Fill, p.Regions[0].Pos = 256, 600 }, api.ErrFill},
		{func(p *api.Policy) { p.Subjects[0].Maps[0].Exec, p.Subjects[0].Maps[0].Pos = true, 500 }, api.ErrWX},
		{func(p *api.Policy) { p.Channels[1].To, p.Channels[1].Pos = "b", 400 }, api.ErrEnds},
		{func(p *api.Policy) { p.Plans[1].Major, p.Plans[1].Pos = 0, 300 }, api.ErrMajor},
		{func(p *api.Policy) {
			p.Pos = 200
			for i := range 9 {
				s := api.Subject{Name: fmt.Sprint("l.", i)}
				for k := range 64 {
					s.Maps = append(s.Maps, api.Map{Of: "r", At: uint64(k) << 30})
				}
				p.Subjects = append(p.Subjects, s)
			}
		}, api.ErrLarge},
	}
	for i := range wrongs {
		p := policy(t, good)
		for _, w := range wrongs[i:] {
			w.change(&p)
		}
		if place, why := Check(p); place != 900-100*i || why != wrongs[i].why {
			t.Errorf("P10.1: the group %d: %d, %v", i+1, place, why)
		}
	}
}

// TestOnePlace: P10.1: of two numbers at one place the one that the table
// names first.
func TestOnePlace(t *testing.T) {
	t.Parallel()
	runs := func(needs bool, run api.Run) func(p *api.Policy) {
		return func(p *api.Policy) {
			p.Plans = append(p.Plans, api.Plan{Name: fmt.Sprint("x.", len(p.Plans)), Major: 8196,
				Lanes: []api.Lane{{CPU: 1, Needs: needs, Runs: []api.Run{{Subject: "b", Budget: 2, Period: run.Period}, run}}}})
		}
	}
	for group, changes := range [][]func(p *api.Policy){
		{
			func(p *api.Policy) { p.Irqs[0].Name = "1" },
			func(p *api.Policy) { p.Starts = append(p.Starts, p.Starts[0]) },
			func(p *api.Policy) { p.Masters[0].Name = "x" },
		}, {}, {
			func(p *api.Policy) { p.Rams[0].At++ },
			func(p *api.Policy) { p.Rams[1].Size = 0 },
			func(p *api.Policy) { p.Devices[1].At = 1 << 32 },
			func(p *api.Policy) { p.Devices[0].At = 9 << 20 },
			func(p *api.Policy) { p.Rams[2].Size = 1 << 26 },
		}, {
			func(p *api.Policy) { p.Regions[8].Size = 100 },
			func(p *api.Policy) { p.Regions[7].Size = 0 },
			func(p *api.Policy) { p.Regions[1].At = 0 },
			func(p *api.Policy) { p.Regions[5].At = 0x13000 },
			func(p *api.Policy) { p.Regions[0].Fill = 256 },
		}, {
			func(p *api.Policy) { p.Subjects[0].Maps[3].At++ },
			func(p *api.Policy) { p.Subjects[2].Maps[1].At = 1 << 39 },
			func(p *api.Policy) { p.Subjects[1].Maps[1].At = 4096 },
			func(p *api.Policy) { p.Devices[0].Maps[1].Exec = true },
			func(p *api.Policy) {
				p.Regions[8].Size = 1 << 26
				for i := range uint64(8) {
					p.Subjects[2].Maps = append(p.Subjects[2].Maps, api.Map{Of: "n", At: 1<<38 + i<<26})
				}
			},
		}, {
			func(p *api.Policy) { p.Subjects[2].CPU = 4 },
			func(p *api.Policy) { p.Irqs[0].Vector = 64 },
			func(p *api.Policy) { p.Channels[1].To = "b" },
			func(p *api.Policy) { p.Subjects[1].Maps[1].Write = true },
		}, {
			func(p *api.Policy) { p.Starts = nil },
			func(p *api.Policy) { p.Masters = nil },
			func(p *api.Policy) { p.Plans[1].Major = 0 },
			func(p *api.Policy) { p.Plans[0].Lanes[0].CPU = 3 },
			runs(false, api.Run{}),
			runs(true, api.Run{Budget: 2, Period: 4}),
			runs(true, api.Run{Subject: "b", Budget: 5, Period: 4}),
			runs(true, api.Run{Subject: "b", Budget: 3, Period: 4}),
			runs(true, api.Run{Subject: "b", Budget: 1, Period: 4}),
		},
	} {
		for i := range changes {
			alone := with(t, good, changes[i])
			atOnePlace(&alone, 5)
			if place, why := Check(alone); place != 5 || why != rows[group][i] {
				t.Errorf("P10.1: %v alone: %d, %v", rows[group][i], place, why)
			}
			for k := range i {
				both := with(t, good, changes[i])
				changes[k](&both)
				atOnePlace(&both, 5)
				if place, why := Check(both); place != 5 || why != rows[group][k] {
					t.Errorf("P10.1: %v and %v: %d, %v", rows[group][i], rows[group][k], place, why)
				}
			}
		}
	}
}

// TestFault: what is wrong wraps its number, and says something.
func TestFault(t *testing.T) {
	t.Parallel()
	l := over(with(t, good, func(p *api.Policy) { p.Irqs[0].Name = "1" }))
	err := l.names()
	if !errors.Is(err, api.ErrForm) || errors.Is(err, api.ErrName) || err.Error() == "" {
		t.Errorf("%v", err)
	}
	if place, why := told(err); place != l.policy.Irqs[0].Pos || why != api.ErrForm {
		t.Errorf("%d, %v", place, why)
	}
	if err := l.howMany(); err != nil {
		t.Errorf("nothing is wrong, and %v", err)
	}
	if place, why := told(nil); place != 0 || why != api.OK {
		t.Errorf("of nothing: %d, %v", place, why)
	}
}

// TestManyNames: P10.1: lists far longer than they may be are gone through,
// and the order of a map is not seen.
func TestManyNames(t *testing.T) {
	t.Parallel()
	const n = 100000
	var p api.Policy
	for i := range n {
		p.Regions = append(p.Regions, api.Region{Pos: 3*n - i, Name: fmt.Sprint("r.", i), Size: 4096})
		p.Subjects = append(p.Subjects, api.Subject{Pos: n + i, Name: fmt.Sprint("s.", i), Maps: []api.Map{{Pos: 9, Of: fmt.Sprint("r.", i)}}})
	}
	if place, why := Check(p); place != n+64 || why != api.ErrMany {
		t.Errorf("P10.1: names of their own: %d, %v", place, why)
	}
	for i := range n {
		p.Regions[i].Name = fmt.Sprint("r.", i%(n/2))
		p.Subjects[i].Maps[0].Of = "r.0"
	}
	for range 4 {
		if place, why := Check(p); place != 2*n+n/2+1 || why != api.ErrTwice {
			t.Errorf("P10.1: each name twice: %d, %v", place, why)
		}
	}
	p.Subjects[7].Maps[0].Of = "r.99999999"
	if place, why := Check(p); place != 9 || why != api.ErrName {
		t.Errorf("P10.1: a stranger: %d, %v", place, why)
	}
}

// TestManyLanes: P10.1: lanes of CPUs that there aren't do not take long.
func TestManyLanes(t *testing.T) {
	t.Parallel()
	p := policy(t, small)
	p.Plans[0].Major = 65536
	needs := []api.Run{{Pos: 600, Subject: "a", Budget: 1, Period: 1}}
	for cpu := range uint64(100000) {
		p.Plans[0].Lanes = append(p.Plans[0].Lanes, api.Lane{Pos: 500, CPU: 10 + cpu, Needs: true, Runs: needs})
	}
	if place, why := Check(p); place != 500 || why != api.ErrCPU {
		t.Errorf("P10.1: %d, %v", place, why)
	}
	if _, _, why := lanes.Flatten(65536, p.Plans[0].Lanes[1]); why != api.OK {
		t.Errorf("the lanes are refused by themselves: %v", why)
	}
}

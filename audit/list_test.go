package audit

import (
	"bytes"
	"fmt"
	"strconv"
	"strings"
	"testing"

	"bulkhead/api"
	"bulkhead/forge"
)

// whole has something of all that a policy may have.
const whole = `system whole {
	ram 0x200000 size 4M; ram 0x100000 size 1M; ram 0x8000000 size 64K;
	device d at 0xf0000000 size 8K dma { map q at 0x5000 write; map h at 0x40000000; map q at 0; }
	device e at 0xf0100000 size 1M;
	device f at 0xf0300000 size 4K dma { map t at (1 << 39) - 4K; }
	region q size 8K at 0x8001000;
	region r size 12K fill 0xfe;
	region h size 2M big wx;
	region t size 4K fill "text\n";
	region z size 8K fill "";
	region o size 4K;
	subject a cpu 0 {
		map r at 0x30000 write; map e at 0x40000000 write; map q at 0x1000;
		map h at 6M write exec; map q at 0x3000 exec; map h at 8M exec;
		fault tell c[1] vector 63;
	}
	subject b cpu 3 stopped { fault reset; map o at 0x8000; map t at 0; }
	subject c[1] cpu 0 { map o at 0x7fff000 write; fault stop; }
	subject n cpu 1 { }
	channel v from b to a vector 5;
	channel w from c[1] to b over o start;
	channel x from a to n stop;
	channel y from n to c[1] reset;
	irq i from e to b vector 9;
	irq j from d to a vector 0 masked;
	plan p major 12 {
		cpu 3 { idle 2; run b 3; }
		cpu 0 needs { need a 1 every 3; need c[1] 2 every 4; }
		cpu 1 { }
	}
	plan z major 65536 { cpu 0 { run a 1; run a 2; run c[1] 65533; } }
	plan y major 1 { }
	master n; start z;
}`

// TestWhole: P18.3: each kind of line.
func TestWhole(t *testing.T) {
	t.Parallel()
	want := `image 0x107000 pages 20
ram 0x200000 size 0x400000
ram 0x100000 size 0x100000
ram 0x8000000 size 0x10000
device 0 at 0xf0000000 size 0x2000 tables 12
device 1 at 0xf0100000 size 0x100000 tables -
device 2 at 0xf0300000 size 0x1000 tables 16
region 0 at 0x8001000 size 0x2000 fill 0 text 0
region 1 at 0x100000 size 0x3000 fill 254 text 0
region 2 at 0x200000 size 0x200000 fill 0 text 0
region 3 at 0x103000 size 0x1000 fill 0 text 5
region 4 at 0x104000 size 0x2000 fill 0 text 0
region 5 at 0x106000 size 0x1000 fill 0 text 0
subject 0 cpu 0 tables 0
  rule tell 2 vector 63
  map 0x1000 to 0x8001000 size 0x2000 r--
  map 0x3000 to 0x8001000 size 0x2000 r-x
  map 0x30000 to 0x100000 size 0x3000 rw-
  map 0x600000 to 0x200000 size 0x200000 rwx big
  map 0x800000 to 0x200000 size 0x200000 r-x big
  map 0x40000000 to 0xf0100000 size 0x100000 rw-
subject 1 cpu 3 tables 5 stopped
  rule reset
  map 0x0 to 0x103000 size 0x1000 r--
  map 0x8000 to 0x106000 size 0x1000 r--
subject 2 cpu 0 tables 8
  rule stop
  map 0x7fff000 to 0x106000 size 0x1000 rw-
subject 3 cpu 1 tables 11
device 0
  map 0x0 to 0x8001000 size 0x2000 r--
  map 0x5000 to 0x8001000 size 0x2000 rw-
  map 0x40000000 to 0x200000 size 0x200000 r-- big
device 2
  map 0x7ffffff000 to 0x103000 size 0x1000 r--
channel 0 from 1 to 0 vector 5
channel 1 from 2 to 1 start
channel 2 from 0 to 3 stop
channel 3 from 3 to 2 reset
irq 0 from 1 to 1 vector 9
irq 1 from 0 to 0 vector 0 masked
plan 0 major 12
  cpu 0: 0 x 1, 2 x 2, 0 x 1, 2 x 2, 0 x 1, - x 1, 2 x 1, 0 x 1, 2 x 1, - x 1
  cpu 1: - x 12
  cpu 2: - x 12
  cpu 3: - x 2, 1 x 3, - x 7
plan 1 major 65536
  cpu 0: 0 x 3, 2 x 65533
  cpu 1: - x 65536
  cpu 2: - x 65536
  cpu 3: - x 65536
plan 2 major 1
  cpu 0: - x 1
  cpu 1: - x 1
  cpu 2: - x 1
  cpu 3: - x 1
master 3
start 1
`
	b := compiled(t, whole)
	text := list(t, b.Image)
	got, must := strings.SplitAfter(text, "\n"), strings.SplitAfter(want, "\n")
	for n := range max(len(got), len(must)) {
		if n >= len(got) || n >= len(must) || got[n] != must[n] {
			t.Fatalf("P18.3: line %d differs:\n%s", n, text)
		}
	}
	holdRebuilt(t, "the whole", b)
}

// TestLines: P18.3: the ends of the numbers that a line may hold.
func TestLines(t *testing.T) {
	t.Parallel()
	i := bench(2)
	i.Bus.Rams = []api.Range{{At: 0xfffff000, Size: 4096}, {At: 0, Size: 8 << 20}}
	i.Base = 0
	i.Regions = []api.Ground{{At: 0xfffff000, Size: 4096, Fill: 255}, {At: 0x7ff000, Size: 4096, Text: strings.Repeat("\x00", 4096)}}
	i.Subjects[1].CPU, i.Subjects[1].Stopped = 3, true
	i.Channels = []api.Link{{From: 1, To: 0, Effect: api.ByVector}, {From: 0, To: 1, Effect: api.ByVector, Vector: 63}}
	i.Plans[0].Major = 2
	i.Plans[0].Lanes = [][]api.Stint{{{Subject: 0, Ticks: 2}}, idle(2), idle(2), {{Subject: 1, Ticks: 1}, {Subject: -1, Ticks: 1}}}
	i.Master = 0
	raw := with(t, i, spaces{1: {stored(1<<39-4096, 0xfffff000, 1)}, 2: {{Virt: 1 << 38, Phys: 0x600000, Pages: 1, Write: true, Exec: true}}})
	want := `image 0x0 pages 9
ram 0xfffff000 size 0x1000
ram 0x0 size 0x800000
device 0 at 0xa00000 size 0x2000 tables 4
device 1 at 0xf0000000 size 0x1000 tables -
device 2 at 0xa02000 size 0x3000 tables -
region 0 at 0xfffff000 size 0x1000 fill 255 text 0
region 1 at 0x7ff000 size 0x1000 fill 0 text 4096
subject 0 cpu 0 tables 0
subject 1 cpu 3 tables 1 stopped
  map 0x7ffffff000 to 0xfffff000 size 0x1000 rw-
device 0
  map 0x4000000000 to 0x600000 size 0x1000 rwx
channel 0 from 1 to 0 vector 0
channel 1 from 0 to 1 vector 63
plan 0 major 2
  cpu 0: 0 x 2
  cpu 1: - x 2
  cpu 2: - x 2
  cpu 3: 1 x 1, - x 1
master 0
start 0
`
	if text := list(t, raw); text != want {
		t.Errorf("P18.3:\n%s", text)
	}
}

// reader makes an image out of its list, line by line, as the chapter's words
// have it: so what a list leaves out is missed.
type reader struct {
	image api.Image
	pages int
	maps  spaces
	actor int // whose rows come
	texts []int
	right bool
}

// scanned reads a line's numbers by its form, all of it; "-" as -1.
func scanned(line, form string, into ...any) bool {
	words, want := strings.Split(line, " "), strings.Split(form, " ")
	if len(words) != len(want) {
		return false
	}
	for n, w := range want {
		switch w {
		case "h":
			x, err := strconv.ParseUint(strings.TrimPrefix(words[n], "0x"), 16, 64)
			if err != nil || fmt.Sprintf("0x%x", x) != words[n] {
				return false
			}
			*into[0].(*uint64) = x
			into = into[1:]
		case "d":
			x, err := strconv.Atoi(words[n])
			if words[n] == "-" {
				x, err = -1, nil
			} else if err != nil || x < 0 || strconv.Itoa(x) != words[n] {
				return false
			}
			*into[0].(*int) = x
			into = into[1:]
		default:
			if words[n] != w {
				return false
			}
		}
	}
	return true
}

// line reads one line; false, if it is of no kind.
func (r *reader) line(line string) bool {
	i := &r.image
	var x, y uint64
	var a, b, c, d int
	switch {
	case scanned(line, "image h pages d", &i.Base, &r.pages):
	case scanned(line, "ram h size h", &x, &y):
		i.Bus.Rams = append(i.Bus.Rams, api.Range{At: x, Size: y})
	case scanned(line, "device d at h size h tables d", &a, &x, &y, &b):
		r.right = r.right && a == len(i.Devices)
		i.Bus.Devices = append(i.Bus.Devices, api.Range{At: x, Size: y})
		i.Devices = append(i.Devices, api.Port{Root: b})
	case scanned(line, "region d at h size h fill d text d", &a, &x, &y, &b, &c):
		r.right = r.right && a == len(i.Regions)
		i.Regions = append(i.Regions, api.Ground{At: x, Size: y, Fill: uint8(b)})
		r.texts = append(r.texts, c)
	case strings.HasPrefix(line, "subject"):
		head, stopped := strings.CutSuffix(line, " stopped")
		ok := scanned(head, "subject d cpu d tables d", &a, &b, &c)
		r.actor = a
		r.right = r.right && ok && a == len(i.Subjects)
		i.Subjects = append(i.Subjects, api.Tenant{CPU: b, Root: c, Stopped: stopped, To: -1})
	case scanned(line, "device d", &a):
		r.actor = len(i.Subjects) + a
	case scanned(line, "master d", &i.Master), scanned(line, "start d", &i.Start):
	case scanned(line, "plan d major d", &a, &b):
		r.right = r.right && a == len(i.Plans)
		i.Plans = append(i.Plans, api.Schedule{Major: b})
	case strings.HasPrefix(line, "irq"):
		head, masked := strings.CutSuffix(line, " masked")
		ok := scanned(head, "irq d from d to d vector d", &a, &b, &c, &d)
		r.right = r.right && ok && a == len(i.Irqs)
		i.Irqs = append(i.Irqs, api.Link{From: b, To: c, Effect: api.ByVector, Vector: d, Masked: masked})
	default:
		return r.inner(line) || r.channel(line)
	}
	return true
}

// inner reads a line with two blanks ahead.
func (r *reader) inner(line string) bool {
	i := &r.image
	var x, y, z uint64
	var a, b int
	for how, form := range []string{"", "  rule tell d vector d", "  rule reset", "  rule stop"} {
		if form != "" && scanned(line, form, &a, &b) {
			s := &i.Subjects[len(i.Subjects)-1]
			s.Rule, s.Vector = how, b
			if how == api.ByVector {
				s.To = a
			}
			return r.actor == len(i.Subjects)-1 && len(r.maps[r.actor]) == 0
		}
	}
	for bits := range 8 {
		write, exec, big := bits&1 != 0, bits&2 != 0, bits&4 != 0
		form := "  map h to h size h r" + map[bool]string{true: "w", false: "-"}[write] + map[bool]string{true: "x", false: "-"}[exec]
		if big {
			form += " big"
		}
		if scanned(line, form, &x, &y, &z) {
			r.maps[r.actor] = append(r.maps[r.actor], api.Leaf{Virt: x, Phys: y, Pages: int(z / 4096), Write: write, Exec: exec, Big: big})
			return z%4096 == 0
		}
	}
	if len(i.Plans) == 0 {
		return false
	}
	p := &i.Plans[len(i.Plans)-1]
	stints, ok := strings.CutPrefix(line, "  cpu "+strconv.Itoa(len(p.Lanes))+": ")
	if !ok {
		return false
	}
	var lane []api.Stint
	for _, s := range strings.Split(stints, ", ") {
		if !scanned(s, "d x d", &a, &b) {
			return false
		}
		lane = append(lane, api.Stint{Subject: a, Ticks: b})
	}
	p.Lanes = append(p.Lanes, lane)
	return true
}

func (r *reader) channel(line string) bool {
	var a, b, c, d int
	for how, form := range []string{"", "vector d", "reset", "stop", "start"} {
		if form != "" && scanned(line, "channel d from d to d "+form, &a, &b, &c, &d) {
			r.image.Channels = append(r.image.Channels, api.Link{From: b, To: c, Effect: how, Vector: d})
			return a == len(r.image.Channels)-1
		}
	}
	return false
}

// kind tells which lines a line stands among.
func kind(line string) int {
	first, _, _ := strings.Cut(line, " ")
	order := []string{"image", "ram", "device", "region", "subject", "mapped device", "channel", "irq", "plan", "master", "start"}
	for n, w := range order {
		if w == first {
			if w == "device" && !strings.Contains(line, "at") {
				return 5
			}
			return n
		}
	}
	return -1
}

// holdRebuilt holds P18.3 and P18.6: the bytes of an image that was built are
// made again out of its list and the texts of its regions.
func holdRebuilt(t *testing.T, what string, b forge.Built) {
	t.Helper()
	text := list(t, b.Image)
	r := reader{maps: spaces{}, right: true}
	last := 0
	if !strings.HasSuffix(text, "\n") {
		t.Fatalf("P18.3: %s: no line ends it", what)
	}
	for _, line := range strings.Split(strings.TrimSuffix(text, "\n"), "\n") {
		if !strings.HasPrefix(line, "  ") {
			if kind(line) < last {
				t.Fatalf("P18.3: %s: in another order: %q in\n%s", what, line, text)
			}
			last = kind(line)
		}
		if !r.line(line) || !r.right {
			t.Fatalf("P18.3: %s: no line: %q in\n%s", what, line, text)
		}
	}
	said := read(t, b.Image)
	for n, g := range said.Regions {
		if r.texts[n] != len(g.Text) {
			t.Fatalf("P18.3: %s: region %d in\n%s", what, n, text)
		}
		r.image.Regions[n].Text = g.Text
	}
	roots := fmt.Sprint(r.image.Subjects, r.image.Devices)
	raw := with(t, r.image, r.maps)
	again := read(t, raw)
	if roots != fmt.Sprint(again.Subjects, again.Devices) {
		t.Fatalf("P18.3: %s: other roots in\n%s", what, text)
	}
	if !bytes.Equal(raw, b.Image) || r.pages != len(raw)/4096 {
		t.Fatalf("P18.6: %s: another image out of\n%s", what, text)
	}
}

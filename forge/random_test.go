package forge

import (
	"errors"
	"fmt"
	"math/rand"
	"reflect"
	"strings"
	"testing"

	"bulkhead/api"
	"bulkhead/place"
	"bulkhead/unfold"
)

func pick[T any](r *rand.Rand, list ...T) T { return list[r.Intn(len(list))] }

// maker makes policies at random, most of which can be built.
type maker struct{ *rand.Rand }

func (m maker) policy() api.Policy {
	p := api.Policy{Name: "s", Pos: m.Intn(9)}
	m.ground(&p)
	for i := range m.Intn(6) {
		p.Subjects = append(p.Subjects, api.Subject{Pos: m.Intn(99), Name: fmt.Sprint("s.", 10-i), CPU: uint64(m.Intn(4)), Stopped: m.Intn(3) == 0})
	}
	for i := range p.Subjects {
		s := &p.Subjects[i]
		s.Maps = m.maps(p, 6, true)
		s.Rules = m.rules(p, s.Name)
	}
	for i := range p.Devices {
		if m.Intn(2) == 0 {
			p.Devices[i].Maps = m.maps(p, 3, false)
		}
	}
	m.links(&p)
	m.plans(&p)
	return p
}

// ground is RAM, windows and regions, of which some find no room.
func (m maker) ground(p *api.Policy) {
	at := pick[uint64](m.Rand, 0, 4096, 1<<21, 1<<31)
	for range 1 + m.Intn(3) {
		size := pick[uint64](m.Rand, 1<<16, 1<<20, 4<<20)
		p.Rams = append(p.Rams, api.Ram{At: at, Size: size})
		at += size + pick[uint64](m.Rand, 0, 0, 4096, 1<<20)
	}
	m.Shuffle(len(p.Rams), reflect.Swapper(p.Rams))
	for i := range m.Intn(5) {
		p.Devices = append(p.Devices, api.Device{Pos: m.Intn(99), Name: fmt.Sprint("d.", 10-i), At: 0xf0000000 + uint64(i)<<20, Size: pick[uint64](m.Rand, 4096, 8192, 1<<20)})
	}
	for i := range m.Intn(9) {
		r := api.Region{Pos: m.Intn(99), Name: fmt.Sprint("r.", 20-i), Size: 4096 * uint64(1+m.Intn(5)), Wx: m.Intn(2) == 0}
		switch m.Intn(6) {
		case 0:
			r.Big, r.Size = true, 1<<21
		case 1:
			ram := pick(m.Rand, p.Rams...)
			r.Fixed, r.At = true, ram.At+4096*uint64(m.Intn(12))
		}
		switch m.Intn(3) {
		case 0:
			r.Texted, r.Text = true, strings.Repeat("some bytes", m.Intn(int(min(r.Size, 4096))/10))
		case 1:
			if !r.Big {
				r.Fill = uint64(m.Intn(256))
			}
		}
		p.Regions = append(p.Regions, r)
	}
}

// maps are mappings in no order, that seldom overlap.
func (m maker) maps(p api.Policy, most int, windows bool) []api.Map {
	var out []api.Map
	unit := pick[uint64](m.Rand, 1<<21, 1<<22, 1<<30)
	for i := range m.Intn(most) {
		x := api.Map{Pos: m.Intn(99), Write: m.Intn(2) == 0}
		if windows && len(p.Devices) > 0 && m.Intn(3) == 0 {
			d := pick(m.Rand, p.Devices...)
			x.Of, x.At = d.Name, unit*uint64(i)+4096*uint64(m.Intn(2))
		} else if len(p.Regions) > 0 {
			r := pick(m.Rand, p.Regions...)
			x.Of, x.At = r.Name, unit*uint64(i)
			if !r.Big {
				x.At += 4096 * uint64(m.Intn(512-5))
			}
			if windows && (!x.Write || r.Wx) {
				x.Exec = m.Intn(2) == 0
			}
		} else {
			continue
		}
		out = append(out, x)
	}
	if len(out) > 0 && m.Intn(10) == 0 {
		out[0].At = 1<<39 - 4096
	}
	m.Shuffle(len(out), reflect.Swapper(out))
	return out
}

func (m maker) rules(p api.Policy, own string) []api.Rule {
	switch how := m.Intn(4); how {
	case api.ByVector:
		to := pick(m.Rand, p.Subjects...).Name
		if to != own {
			return []api.Rule{{How: how, To: to, Vector: uint64(m.Intn(64))}}
		}
	case api.ByReset, api.ByStop:
		return []api.Rule{{How: how}}
	}
	return nil
}

func (m maker) links(p *api.Policy) {
	if len(p.Subjects) == 0 {
		return
	}
	for i := range m.Intn(5) {
		c := api.Channel{Name: fmt.Sprint("c.", i), From: pick(m.Rand, p.Subjects...).Name, To: pick(m.Rand, p.Subjects...).Name, How: 1 + m.Intn(4)}
		if c.How == api.ByVector {
			c.Vector = uint64(m.Intn(64))
		}
		if c.From != c.To || m.Intn(50) == 0 {
			p.Channels = append(p.Channels, c)
		}
	}
	for i := range m.Intn(4) {
		if len(p.Devices) > 0 {
			p.Irqs = append(p.Irqs, api.IrqLine{Name: fmt.Sprint("i.", i), From: pick(m.Rand, p.Devices...).Name, To: pick(m.Rand, p.Subjects...).Name, Vector: uint64(m.Intn(64)), Masked: m.Intn(2) == 0})
		}
	}
}

// plans are plans, and who starts and who switches them.
func (m maker) plans(p *api.Policy) {
	for i := range 1 + m.Intn(3) {
		n := api.Plan{Name: fmt.Sprint("p.", 9-i), Major: pick[uint64](m.Rand, 1, 12, 60, 65536)}
		for _, cpu := range m.Perm(4)[:m.Intn(5)] {
			n.Lanes = append(n.Lanes, m.lane(p, n.Major, uint64(cpu)))
		}
		p.Plans = append(p.Plans, n)
	}
	p.Starts = []api.Pick{{Name: pick(m.Rand, p.Plans...).Name}}
	if len(p.Subjects) > 0 && (len(p.Plans) > 1 || m.Intn(2) == 0) {
		p.Masters = []api.Pick{{Name: pick(m.Rand, p.Subjects...).Name}}
	}
}

func (m maker) lane(p *api.Policy, major, cpu uint64) api.Lane {
	l := api.Lane{CPU: cpu, Needs: m.Intn(3) == 0}
	left := major
	for _, s := range p.Subjects {
		if s.CPU != cpu || left < major/6 || m.Intn(4) == 0 {
			continue
		}
		r := api.Run{Subject: s.Name, Budget: 1 + uint64(m.Intn(int(major/6+1)))}
		r.Budget = min(r.Budget, left)
		if l.Needs {
			r.Period = major
		}
		if r.Budget > 0 {
			l.Runs = append(l.Runs, r)
		}
		left -= r.Budget
		if !l.Needs && left > 0 && m.Intn(3) == 0 {
			l.Runs = append(l.Runs, api.Run{Budget: 1})
			left--
		}
	}
	return l
}

// TestPoliciesAtRandom: P14.4, P14.5: policies against the chapter's words.
func TestPoliciesAtRandom(t *testing.T) {
	t.Parallel()
	m := maker{rand.New(rand.NewSource(14))}
	count := map[api.Errno]int{}
	for range 3000 {
		p := m.policy()
		before := copyOf(p)
		b, at, why := Emit(p)
		want, pos, e := emit(p)
		if at != pos || why != e || !sameBuilt(b, want) {
			t.Fatalf("P14.4: %v at %d, want %v at %d\n%+v", why, at, e, pos, p)
		}
		if !samePolicy(p, before) {
			t.Fatalf("R2: the policy was changed: %+v", p)
		}
		if count[why]++; why != api.OK {
			continue
		}
		l, _, _ := place.Lay(p)
		if i, e := Image(p, l); e != api.OK || !sameImage(i, image(p, l)) {
			t.Fatalf("P14.5: %v\n%+v", e, p)
		}
		if count[why]%10 == 0 {
			holdSpaces(t, b)
		}
		text, _ := unfold.Write(p)
		if c := compiled(t, string(text)); string(c.Image) != string(b.Image) {
			t.Fatalf("W8: another image of\n%s", text)
		}
	}
	if count[api.OK] < 1000 || count[api.ErrSpace] < 200 || len(count) < 5 {
		t.Errorf("the policies are too tame: %v", count)
	}
}

// shelf are texts that are spoilt at random.
func shelf() []string {
	return []string{
		whole, family(2), family(9), of("ram 0 size 64K;"),
		of("ram 0 size 8M; region g[0] size 4M; region g[1] size 3M; region h size 64K fill 1; region j size 8K; subject a cpu 0 { map j at 4K write; }"),
		of("ram 0 size 4M;\n region r size 2M;\n region g size 1M; region f size 1020K;"),
		"\n" + of("ram 4K size 4M; region b size 2M big;\nregion c size 1M;"),
	}
}

// spoilt is a text with something taken out, put in, or put elsewhere.
func (m maker) spoilt(src string) string {
	words := strings.SplitAfter(src, " ")
	kinds := pick(m.Rand, 8, 100)
	for range 1 + m.Intn(20) {
		i, k := m.Intn(len(words)), m.Intn(len(words))
		switch m.Intn(kinds) {
		case 0:
			words[i] = ""
		case 1:
			words[i], words[k] = words[k], words[i]
		case 2:
			words[i] = words[k]
		case 3:
			words[i] += words[k]
		default:
			words[i] = m.number(words[i])
		}
	}
	out := []byte(strings.Join(words, ""))
	if m.Intn(20) == 0 {
		out[m.Intn(len(out))] = byte(m.Intn(256))
	}
	return string(out)
}

// resized is a text of which some things have another size.
func (m maker) resized(src string) string {
	words := strings.SplitAfter(src, " ")
	for i := 1; i < len(words); i++ {
		if words[i-1] == "size " && m.Intn(4) == 0 {
			tail := strings.TrimLeft(words[i], "0123456789KM")
			words[i] = pick(m.Rand, "4K", "64K", "512K", "1M", "2M", "4M", "8M", "16M") + tail
		}
	}
	return strings.Join(words, "")
}

// number makes another number of a word that begins with one.
func (m maker) number(word string) string {
	if word == "" || word[0] < '0' || word[0] > '9' {
		return word
	}
	tail := strings.TrimLeft(word, "0123456789abcdefxKM")
	return pick(m.Rand, "0", "1", "3", "4K", "8K", "64K", "1M", "2M", "8M", "64M", "64", "0x100000", "(1 << 39)", "0 - 1", "n") + tail
}

// TestTextsAtRandom: P14.1, P14.2, W5: spoilt texts against the chapter's
// words.
func TestTextsAtRandom(t *testing.T) {
	t.Parallel()
	m := maker{rand.New(rand.NewSource(41))}
	classes, numbers := [5]int{}, map[api.Errno]int{}
	for range 6000 {
		change := pick(m.Rand, m.spoilt, m.spoilt, m.resized)
		src := []byte(change(pick(m.Rand, shelf()...)))
		r := holdText(t, src)
		classes[r.Class]++
		numbers[r.Why]++
	}
	for class, n := range classes {
		if n < 200 && class != TooLong {
			t.Errorf("the texts are too tame: class %d %d times", class, n)
		}
	}
	if len(numbers) < 20 {
		t.Errorf("the texts are too tame: %v", numbers)
	}
}

// TestBytesAtRandom: W5: whatever bytes there are, one refusal or an image.
func TestBytesAtRandom(t *testing.T) {
	t.Parallel()
	r := rand.New(rand.NewSource(5))
	for range 2000 {
		src := make([]byte, r.Intn(200))
		r.Read(src)
		if r.Intn(2) == 0 {
			src = append([]byte("system s { "), src...)
		}
		holdText(t, src)
	}
}

// holdText holds Read and Compile of a text against the model, and tells the
// refusal.
func holdText(t *testing.T, src []byte) Refusal {
	t.Helper()
	p, err := Read(src)
	right, want := read(src)
	holdSame(t, "P14.1", src, err, want)
	if !samePolicy(p, right) {
		t.Fatalf("P14.1: another policy of %q", src)
	}
	b, err := Compile(src)
	built, want := compile(src)
	holdSame(t, "P14.2", src, err, want)
	if !sameBuilt(b, built) {
		t.Fatalf("P14.2: not what is built of %q", src)
	}
	return want
}

func holdSame(t *testing.T, promise string, src []byte, err error, want Refusal) {
	t.Helper()
	var r *Refusal
	switch found := errors.As(err, &r); {
	case want.Class == 0 && err != nil, want.Class != 0 && (!found || *r != want):
		t.Fatalf("%s: %+v, want %+v: %q", promise, err, want, src)
	}
}

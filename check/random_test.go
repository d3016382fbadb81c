package check

import (
	"fmt"
	"math"
	"math/rand"
	"reflect"
	"slices"
	"sync"
	"testing"

	"bulkhead/api"
)

// spoiler changes policies at random.
type spoiler struct{ *rand.Rand }

func pick[T any](r *rand.Rand, list ...T) T { return list[r.Intn(len(list))] }

// kinds are the leaves of a policy, those of one field of one type together.
func kinds(p *api.Policy) [][]reflect.Value {
	var out [][]reflect.Value
	number := map[string]int{}
	var walk func(v reflect.Value, path string)
	walk = func(v reflect.Value, path string) {
		switch v.Kind() {
		case reflect.Struct:
			for i := range v.NumField() {
				walk(v.Field(i), v.Type().Name()+"."+v.Type().Field(i).Name)
			}
		case reflect.Slice:
			for i := range v.Len() {
				walk(v.Index(i), path)
			}
		default:
			i, ok := number[path]
			if !ok {
				i = len(out)
				number[path] = i
				out = append(out, nil)
			}
			out[i] = append(out[i], v)
		}
	}
	walk(reflect.ValueOf(p).Elem(), "")
	return out
}

// lists are the lists of a policy.
func lists(v reflect.Value) []reflect.Value {
	var out []reflect.Value
	switch v.Kind() {
	case reflect.Struct:
		for i := range v.NumField() {
			out = append(out, lists(v.Field(i))...)
		}
	case reflect.Slice:
		out = append(out, v)
		for i := range v.Len() {
			out = append(out, lists(v.Index(i))...)
		}
	}
	return out
}

// field gives one field another value.
func (s spoiler) field(p *api.Policy) {
	v := pick(s.Rand, pick(s.Rand, kinds(p)...)...)
	switch v.Kind() {
	case reflect.Bool:
		v.SetBool(!v.Bool())
	case reflect.String:
		v.SetString(pick(s.Rand, "", "a", "b", "c.7", "d", "e", "r", "q", "o", "h", "g.0", "p", "z", "k", "i", "x", "q.01", "system", "g.0.1", "abcdefgh"))
	case reflect.Int:
		v.SetInt(int64(pick(s.Rand, 0, 1, 2, 3, 4, 5, -1, s.Intn(800), math.MinInt, math.MaxInt)))
	case reflect.Uint64:
		n := v.Uint()
		step := pick(s.Rand, uint64(1), 4096, 1<<20, 1<<21, 1<<26, 1<<30, 1<<32, 1<<39, 1<<63)
		v.SetUint(pick(s.Rand, n+1, n-1, n*2, n/2, n+step, n-step, step, step-4096, step+4096, -step,
			0, 1, 3, 4, 63, 64, 255, 256, 65535, 65536, 65537, math.MaxUint64))
	}
}

// list takes a member of a list out, puts one in again, or exchanges two.
func (s spoiler) list(p *api.Policy) {
	v := pick(s.Rand, lists(reflect.ValueOf(p).Elem())...)
	if v.Len() == 0 {
		return
	}
	i, k := s.Intn(v.Len()), s.Intn(v.Len())
	switch s.Intn(4) {
	case 0:
		v.Set(reflect.AppendSlice(v.Slice3(0, i, i), v.Slice(i+1, v.Len())))
	case 1:
		v.Set(reflect.Append(v, deep(v.Index(i))))
	default:
		x := deep(v.Index(i))
		v.Index(i).Set(v.Index(k))
		v.Index(k).Set(x)
	}
}

// positions lays all declarations at a few places, or makes their order another one.
func (s spoiler) positions(p *api.Policy) {
	most := pick(s.Rand, 1, 3, 10, 1000)
	low := pick(s.Rand, 0, -2, math.MinInt, math.MaxInt-1000)
	setPlaces(reflect.ValueOf(p).Elem(), func() int { return low + s.Intn(most) })
}

// grow makes a list as long as it may be, one longer, or two longer, of
// members that are right.
func (s spoiler) grow(p *api.Policy) {
	pos := func() int { return s.Intn(2000) }
	more := pick(s.Rand, 0, 1, 2)
	switch s.Intn(9) {
	case 0:
		for i := len(p.Rams); i < 8+more; i++ {
			p.Rams = append(p.Rams, api.Ram{Pos: pos(), At: 1<<30 + uint64(i)<<16, Size: 4096})
		}
	case 1:
		for i := len(p.Devices); i < 32+more; i++ {
			p.Devices = append(p.Devices, api.Device{Pos: pos(), Name: fmt.Sprint("dev.", i), At: 1<<31 + uint64(i)<<16, Size: 4096})
		}
	case 2:
		for i := len(p.Regions); i < 256+more; i++ {
			p.Regions = append(p.Regions, api.Region{Pos: pos(), Name: fmt.Sprint("reg.", i), Size: 4096})
		}
	case 3:
		for i := len(p.Subjects); i < 64+more; i++ {
			p.Subjects = append(p.Subjects, api.Subject{Pos: pos(), Name: fmt.Sprint("sub.", i)})
		}
	case 4:
		for i := len(p.Channels); i < 256+more; i++ {
			p.Channels = append(p.Channels, api.Channel{Pos: pos(), Name: fmt.Sprint("chan.", i), From: "a", To: "b", How: api.ByStart})
		}
	case 5:
		for i := len(p.Irqs); i < 64+more; i++ {
			p.Irqs = append(p.Irqs, api.IrqLine{Pos: pos(), Name: fmt.Sprint("irq.", i), From: "d", To: "a"})
		}
	case 6:
		for i := len(p.Plans); i < 16+more; i++ {
			p.Plans = append(p.Plans, api.Plan{Pos: pos(), Name: fmt.Sprint("plan.", i), Major: 1})
		}
	default:
		space := pick(s.Rand, 20, 21, 30)
		maps := &p.Subjects[s.Intn(len(p.Subjects))].Maps
		if len(p.Devices) > 0 && s.Intn(3) == 0 {
			maps = &p.Devices[0].Maps
		}
		for i := len(*maps); i < 64+more; i++ {
			*maps = append(*maps, api.Map{Pos: pos(), Of: "r", At: uint64(1+i) << space})
		}
	}
}

// load gives a policy much to map, or much to run.
func (s spoiler) load(p *api.Policy) {
	switch s.Intn(6) {
	case 0: // pages: eight times 2^14
		p.Regions = append(p.Regions, api.Region{Pos: s.Intn(800), Name: "huge", Size: 1 << 26, Big: s.Intn(2) == 0})
		for i := range uint64(6 + s.Intn(5)) {
			x := &p.Subjects[s.Intn(len(p.Subjects))]
			x.Maps = append(x.Maps, api.Map{Pos: s.Intn(800), Of: "huge", At: 1<<35 + i<<26})
		}
	case 1: // tables
		for k := range uint64(7 + s.Intn(2)) {
			x := api.Subject{Pos: s.Intn(800), Name: fmt.Sprint("t.", k)}
			for i := range uint64(61 + s.Intn(4)) {
				x.Maps = append(x.Maps, api.Map{Pos: s.Intn(800), Of: "r", At: i << 30})
			}
			p.Subjects = append(p.Subjects, x)
		}
	case 2: // slots
		plan := &p.Plans[s.Intn(len(p.Plans))]
		plan.Major = pick(s.Rand, uint64(8192), 8194, 8196)
		plan.Lanes = append(plan.Lanes, api.Lane{Pos: s.Intn(800), CPU: 2, Needs: true, Runs: []api.Run{{Pos: s.Intn(800), Subject: "s2", Budget: 1, Period: 2}}})
		p.Subjects = append(p.Subjects, api.Subject{Pos: s.Intn(800), Name: "s2", CPU: 2})
		if s.Intn(2) == 0 {
			plan.Lanes[len(plan.Lanes)-1].Runs[0].Period = 4
			plan.Lanes[len(plan.Lanes)-1].Runs[0].Budget = uint64(1 + s.Intn(5))
		}
	case 3: // regions beside one another
		r, q := &p.Regions[s.Intn(len(p.Regions))], p.Regions[s.Intn(len(p.Regions))]
		r.Fixed, r.At = true, q.At+pick(s.Rand, 0, q.Size, q.Size-4096, -r.Size, 4096-r.Size)
	case 4: // a need of nobody
		for _, plan := range p.Plans {
			for _, l := range plan.Lanes {
				if i := s.Intn(1 + len(l.Runs)); l.Needs && i < len(l.Runs) {
					l.Runs[i].Subject = ""
				}
			}
		}
	default: // a text
		r := &p.Regions[s.Intn(len(p.Regions))]
		r.Texted, r.Fill = true, 0
		r.Text = string(make([]byte, pick(s.Rand, r.Size, r.Size+1, r.Size-1, 1<<20, 1<<20+1)%(1<<21)))
	}
}

// spoil changes a policy a few times.
func (s spoiler) spoil(p *api.Policy) {
	for range pick(s.Rand, 0, 1, 1, 1, 2, 2, 3, 5) {
		if len(p.Subjects) == 0 || len(p.Regions) == 0 || len(p.Plans) == 0 {
			return
		}
		switch s.Intn(16) {
		case 0, 1:
			s.list(p)
		case 2:
			s.grow(p)
		case 3:
			s.load(p)
		default:
			s.field(p)
		}
	}
	if s.Intn(2) == 0 {
		s.positions(p)
	}
}

// shuffled lays all lists but those of runs in another order.
func (s spoiler) shuffled(p api.Policy) api.Policy {
	p = copied(p)
	for _, v := range lists(reflect.ValueOf(&p).Elem()) {
		if v.Type() != reflect.TypeFor[[]api.Run]() {
			s.Shuffle(v.Len(), reflect.Swapper(v.Interface()))
		}
	}
	return p
}

// seen counts how often each number of each group was told.
type seen struct {
	sync.Mutex
	told map[[2]int]int
}

func (n *seen) count(group int, why api.Errno) {
	n.Lock()
	defer n.Unlock()
	n.told[[2]int{group, int(why)}]++
}

// TestAtRandom: P10.1 to P10.4: policies that are spoilt a little, against the
// chapter's words.
func TestAtRandom(t *testing.T) {
	counts := &seen{told: map[[2]int]int{}}
	t.Run("seeds", func(t *testing.T) {
		for seed := range int64(16) {
			t.Run(fmt.Sprint(seed), func(t *testing.T) {
				t.Parallel()
				s := spoiler{rand.New(rand.NewSource(seed))}
				bases := []api.Policy{policy(t, good), policy(t, good), policy(t, small)}
				for range 700 {
					p := copied(pick(s.Rand, bases...))
					s.spoil(&p)
					holdAll(t, s, p, counts)
				}
			})
		}
	})
	for group, numbers := range rows {
		for _, why := range numbers {
			if n := counts.told[[2]int{group, int(why)}]; n < 2 {
				t.Errorf("group %d: %v was told %d times: the policies are too tame", group+1, why, n)
			}
		}
	}
	if n := counts.told[[2]int{-1, 0}]; n < 1000 {
		t.Errorf("nothing was wrong %d times", n)
	}
}

// holdAll holds all answers of a policy against the model's.
func holdAll(t *testing.T, s spoiler, p api.Policy, counts *seen) {
	t.Helper()
	before := copied(p)
	group, place, why := modelled(p)
	counts.count(group, why)
	if at, e := Check(p); at != place || e != why {
		t.Fatalf("P10.1: %d, %v, want %d, %v (group %d)\n%+v", at, e, place, why, group+1, p)
	}
	if at, e := Check(emptied(p)); at != place || e != why {
		t.Fatalf("R4: %d, %v, want %d, %v (group %d)\n%+v", at, e, place, why, group+1, p)
	}
	if _, e := Check(s.shuffled(p)); (e == api.OK) != (why == api.OK) {
		t.Fatalf("P10.4: %v, in another order %v\n%+v", why, e, p)
	}
	m := &model{p: p}
	if n, want := Pages(p), m.pages(); n != want {
		t.Fatalf("P10.3: %d, want %d\n%+v", n, want, p)
	}
	spaces := [][]api.Map{nil}
	for _, x := range p.Subjects {
		spaces = append(spaces, x.Maps)
	}
	for _, x := range p.Devices {
		spaces = append(spaces, x.Maps)
	}
	maps := pick(s.Rand, spaces...)
	if n, want := Tables(maps, p), m.tables(maps); n != want {
		t.Fatalf("P10.2: %d, want %d: %+v\n%+v", n, want, maps, p)
	}
	if !reflect.DeepEqual(p, before) {
		t.Fatalf("R2: the policy was changed: %+v, it was %+v", p, before)
	}
}

// TestTablesAtRandom: P10.2: spaces of all kinds, of objects of all sizes.
func TestTablesAtRandom(t *testing.T) {
	t.Parallel()
	r := rand.New(rand.NewSource(5))
	none := 0
	for range 3000 {
		var p api.Policy
		for i := range 6 {
			size := pick(r, 0, 1, 4096, 8192, 5000, 1<<21, 1<<21+4096, 1<<22, 3<<21, 1<<26, 1<<26+uint64(r.Intn(2)))
			name := fmt.Sprint("o.", r.Intn(8))
			if i%2 == 0 {
				p.Regions = append(p.Regions, api.Region{Name: name, Size: size, Big: r.Intn(2) == 0})
			} else {
				p.Devices = append(p.Devices, api.Device{Name: name, Size: size})
			}
		}
		var maps []api.Map
		for range r.Intn(5) {
			base := pick(r, 0, 1<<21, 1<<30, 5<<30, 1<<39, uint64(r.Intn(4))<<29)
			at := base + pick(r, 0, 4096, 1, math.MaxUint64, math.MaxUint64-4095, 1<<21, math.MaxUint64-(1<<26-1), uint64(r.Intn(1<<26)))
			maps = append(maps, api.Map{Of: fmt.Sprint("o.", r.Intn(8)), At: at})
		}
		want := (&model{p: p}).tables(maps)
		if n := Tables(maps, p); n != want {
			t.Fatalf("P10.2: %d, want %d: %+v of %+v", n, want, maps, p)
		}
		if want == 0 {
			none++
		}
		turned := slices.Clone(maps)
		slices.Reverse(turned)
		if n := Tables(slices.Concat(turned, maps), p); n != want {
			t.Fatalf("P10.2: each twice: %d, want %d: %+v of %+v", n, want, maps, p)
		}
	}
	if none < 300 || none > 2700 {
		t.Errorf("%d spaces were refused", none)
	}
}

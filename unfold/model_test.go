package unfold

import (
	"fmt"
	"maps"
	"math/rand"
	"strings"
	"sync"
	"testing"

	"bulkhead/api"
	"bulkhead/render"
)

// model unfolds a tree by calls in calls: who stands in a block sees a copy of
// what is in sight around it.
type model struct {
	tree  api.Tree
	out   api.Policy
	spent uint64
	made  int
}

// wrong is a refusal.
type wrong struct {
	at  int
	why api.Errno
}

// env is what is in sight: the names, and the groups with what was in sight
// there.
type env struct {
	names  map[string]uint64
	groups map[string]owned
}

type owned struct {
	item api.Item
	env
}

func (e env) copy() env { return env{maps.Clone(e.names), maps.Clone(e.groups)} }

// modelled tells what Unfold must answer.
func modelled(t api.Tree) (p api.Policy, at int, why api.Errno) {
	m := &model{tree: t, out: api.Policy{Pos: t.Pos, Name: t.Name.Word}}
	defer func() {
		if got := recover(); got != nil {
			refusal := got.(wrong)
			p, at, why = api.Policy{}, refusal.at, refusal.why
		}
	}()
	m.block(t.Top, env{map[string]uint64{}, map[string]owned{}}, &m.out)
	return m.out, 0, api.OK
}

func (m *model) nodes(root int) uint64 {
	count := uint64(1)
	for _, kid := range m.tree.Nodes[root].Kids {
		count += m.nodes(kid)
	}
	return count
}

func (m *model) expr(root int, e env) uint64 {
	n := m.tree.Nodes[root]
	switch n.Op {
	case api.XInt:
		return n.N
	case api.XName:
		number, ok := e.names[n.S]
		if !ok {
			panic(wrong{n.At, api.ErrName})
		}
		return number
	}
	a, b := m.expr(n.Kids[0], e), m.expr(n.Kids[1], e)
	number, why := worked(signs[n.Op-api.TEqual], a, b)
	if why != api.OK {
		panic(wrong{n.At, why})
	}
	return number
}

func (m *model) ref(r api.Ref, e env) string {
	text := r.Word
	for _, root := range r.Index {
		text += fmt.Sprint(".", m.expr(root, e))
	}
	if len(text) > 64 {
		panic(wrong{r.At, api.ErrLong})
	}
	return text
}

func (m *model) charge(cost uint64, at int) {
	if m.spent+cost > api.MaxWork || cost > api.MaxWork {
		panic(wrong{at, api.ErrMany})
	}
	m.spent += cost
}

// block goes through items; in is a pointer to what they belong to. What it
// brings into sight stays in its own copy.
func (m *model) block(items []int, around env, in any) {
	e := around.copy()
	for _, n := range items {
		m.item(m.tree.Items[n], e, in)
	}
}

func (m *model) item(x api.Item, e env, in any) {
	cost := uint64(1)
	for _, roots := range [][]int{x.Name.Index, x.From.Index, x.To.Index, x.Over.Index, x.E} {
		for _, root := range roots {
			cost += m.nodes(root)
		}
	}
	m.charge(cost, x.Pos)
	_, seen := e.names[x.Name.Word]
	switch x.Kind {
	case api.IConst, api.IEach:
		if seen {
			panic(wrong{x.Name.At, api.ErrTwice})
		}
	}
	switch x.Kind {
	case api.IConst:
		e.names[x.Name.Word] = m.expr(x.E[0], e)
	case api.IAssert:
		if m.expr(x.E[0], e) == 0 {
			panic(wrong{x.Pos, api.ErrAssert})
		}
	case api.IIf:
		if m.expr(x.E[0], e) != 0 {
			m.block(x.Kids, e, in)
		} else {
			m.block(x.Else, e, in)
		}
	case api.IEach:
		from, to := m.expr(x.E[0], e), m.expr(x.E[1], e)
		m.charge(max(to, from)-from, x.Pos)
		for ; from < to && len(x.Kids) > 0; from++ {
			round := e.copy()
			round.names[x.Name.Word] = from
			m.block(x.Kids, round, in)
		}
	case api.IGroup:
		m.group(x, e)
	case api.IUse:
		m.use(x, e, in)
	default:
		m.declare(x, e, in)
	}
}

func (m *model) group(x api.Item, e env) {
	if _, ok := e.groups[x.Name.Word]; ok {
		panic(wrong{x.Name.At, api.ErrTwice})
	}
	for i, param := range x.Params {
		_, twice := e.names[param.Word]
		for _, ahead := range x.Params[:i] {
			twice = twice || ahead.Word == param.Word
		}
		if twice {
			panic(wrong{param.At, api.ErrTwice})
		}
	}
	e.groups[x.Name.Word] = owned{x, e.copy()}
}

func (m *model) use(x api.Item, e env, in any) {
	g, ok := e.groups[x.Name.Word]
	if !ok {
		panic(wrong{x.Name.At, api.ErrName})
	}
	if len(g.item.Params) != len(x.E) {
		panic(wrong{x.Name.At, api.ErrCount})
	}
	inside := g.env.copy()
	for i, root := range x.E {
		inside.names[g.item.Params[i].Word] = m.expr(root, e)
	}
	m.block(g.item.Kids, inside, in)
}

func (m *model) declare(x api.Item, e env, in any) {
	name, from, to, over := m.ref(x.Name, e), m.ref(x.From, e), m.ref(x.To, e), m.ref(x.Over, e)
	n := []uint64{}
	for _, root := range x.E {
		n = append(n, m.expr(root, e))
	}
	n = append(n, 0, 0)
	if m.made++; m.made > api.MaxItems {
		panic(wrong{x.Pos, api.ErrMany})
	}
	on := func(flag int) bool { return x.Flags&flag == flag }
	p, pos := &m.out, x.Pos
	switch x.Kind {
	case api.IRam:
		p.Rams = append(p.Rams, api.Ram{Pos: pos, At: n[0], Size: n[1]})
	case api.IDevice:
		made := api.Device{Pos: pos, Name: name, At: n[0], Size: n[1]}
		m.block(x.Kids, e, &made.Maps)
		p.Devices = append(p.Devices, made)
	case api.IRegion:
		made := api.Region{Pos: pos, Name: name, Size: n[0], Fixed: on(api.FAt), Big: on(api.FBig), Wx: on(api.FWx), Texted: on(api.FText), Text: x.Text}
		if on(api.FAt) {
			made.At, n = n[1], n[1:]
		}
		if on(api.FFill) {
			made.Fill = n[1]
		}
		p.Regions = append(p.Regions, made)
	case api.ISubject:
		made := api.Subject{Pos: pos, Name: name, CPU: n[0], Stopped: on(api.FStopped)}
		m.block(x.Kids, e, &made)
		p.Subjects = append(p.Subjects, made)
	case api.IChannel:
		p.Channels = append(p.Channels, api.Channel{Pos: pos, Name: name, From: from, To: to, Shared: on(api.FOver), Over: over, How: x.How, Vector: n[0]})
	case api.IIrq:
		p.Irqs = append(p.Irqs, api.IrqLine{Pos: pos, Name: name, From: from, To: to, Vector: n[0], Masked: on(api.FMasked)})
	case api.IPlan:
		made := api.Plan{Pos: pos, Name: name, Major: n[0]}
		m.block(x.Kids, e, &made)
		p.Plans = append(p.Plans, made)
	case api.IMaster:
		p.Masters = append(p.Masters, api.Pick{Pos: pos, Name: name})
	case api.IStart:
		p.Starts = append(p.Starts, api.Pick{Pos: pos, Name: name})
	case api.IMap:
		made := api.Map{Pos: pos, Of: name, At: n[0], Write: on(api.FWrite), Exec: on(api.FExec)}
		if s, ok := in.(*api.Subject); ok {
			s.Maps = append(s.Maps, made)
		} else {
			*in.(*[]api.Map) = append(*in.(*[]api.Map), made)
		}
	case api.IFault:
		s := in.(*api.Subject)
		s.Rules = append(s.Rules, api.Rule{Pos: pos, How: x.How, To: to, Vector: n[0]})
	case api.ILane:
		made := api.Lane{Pos: pos, CPU: n[0], Needs: on(api.FNeeds)}
		m.block(x.Kids, e, &made)
		in.(*api.Plan).Lanes = append(in.(*api.Plan).Lanes, made)
	case api.IRun, api.IIdle, api.INeed:
		l := in.(*api.Lane)
		l.Runs = append(l.Runs, api.Run{Pos: pos, Subject: name, Budget: n[0], Period: n[1]})
	}
}

// author writes texts at random of which many are taken: most names are in
// sight, most numbers are small.
type author struct {
	*rand.Rand
	out    strings.Builder
	left   int // of the items
	groups []int
}

func (a *author) one(texts ...string) string { return texts[a.Intn(len(texts))] }

func (a *author) rarely() bool { return a.Intn(70) == 0 }

func (a *author) expr(sight []string, depth int) string {
	switch k := a.Intn(10); {
	case k < 3 && len(sight) > 0:
		return sight[a.Intn(len(sight))]
	case k < 7 || depth == 0:
		if a.rarely() {
			return a.one("nobody", "18446744073709551615", "9223372036854775808", "0", "64", "a")
		}
		return fmt.Sprint(1 + a.Intn(4))
	}
	x, y := a.expr(sight, depth-1), a.expr(sight, depth-1)
	if a.rarely() {
		return fmt.Sprintf("( %s %s %s )", x, a.one("-", "/", "%", "<<"), y)
	}
	return fmt.Sprintf("( %s %s %s )", x, a.one("+", "*", "+", "|", "^", "&", "==", "!=", "<", "<=", ">", ">=", ">>", "+ 9 -"), y)
}

func (a *author) name(sight []string) string {
	text := a.one("r", "u", "d", "p", "c")
	for range a.Intn(3) {
		text += "[" + a.expr(sight, 1) + "]"
	}
	if a.Intn(300) == 0 {
		text += strings.Repeat("[9999999999]", 6)
	}
	return text
}

// fresh is a name that is not in sight, most times.
func (a *author) fresh(sight []string) string {
	if a.rarely() && len(sight) > 0 {
		return sight[a.Intn(len(sight))]
	}
	if a.Intn(4) == 0 {
		return a.one("a", "b", "e", "f", "g", "h", "k", "l", "m") + a.one("", "0", "1", "2", "3", "4", "5", "6")
	}
	return fmt.Sprintf("n%d", a.Intn(1<<20))
}

// fill puts expressions and names into a line: E and N.
func (a *author) fill(line string, sight []string) {
	for _, word := range strings.Fields(line) {
		switch word {
		case "E":
			word = a.expr(sight, 2)
		case "N":
			word = a.name(sight)
		case "ANY": // a word that may be left out
			word = ""
		}
		a.out.WriteString(word + " ")
	}
}

// lines are what the kinds of blocks may hold.
var lines = map[string][]string{
	"item":  {"ram E size E ;", "device N at E size E ;", "device N at E size E dma { reach", "region N size E ;", "region N size E at E big fill E ;", "region N size E wx fill \"x\" ;", "region N size E fill E ;", "subject N cpu E { part", "subject N cpu E stopped { part", "channel N from N to N over N vector E ;", "channel N from N to N vector E ;", "channel N from N to N reset ;", "channel N from N to N over N start ;", "irq N from N to N vector E masked ;", "irq N from N to N vector E ;", "plan N major E { lane", "master N ;", "start N ;"},
	"reach": {"map N at E ;", "map N at E write exec ;"},
	"part":  {"map N at E write ;", "map N at E exec ;", "fault stop ;", "fault reset ;", "fault tell N vector E ;"},
	"lane":  {"cpu E { run", "cpu E needs { need"},
	"run":   {"run N E ;", "idle E ;"},
	"need":  {"need N E every E ;"},
}

// block writes the items of a block.
func (a *author) block(kind string, sight []string, depth int) {
	sight = append([]string(nil), sight...)
	for range a.Intn(5) {
		if a.left--; a.left < 0 {
			return
		}
		switch k := a.Intn(14); {
		case k < 2:
			name := a.fresh(sight)
			a.fill("const "+name+" = E ;", sight)
			sight = append(sight, name)
		case k == 2 && a.Intn(4) == 0:
			a.fill("assert E ;", sight)
		case k < 4 && depth > 0:
			a.fill("if E {", sight)
			a.block(kind, sight, depth-1)
			if a.Intn(2) == 0 {
				a.fill("} else {", sight)
				a.block(kind, sight, depth-1)
			}
			a.fill("}", sight)
		case k < 6 && depth > 0:
			name := a.fresh(sight)
			a.fill("each "+name+" in "+a.one("0", "1", "3", "E")+" .. "+a.one("1", "2", "4", "E")+" {", sight)
			a.block(kind, append(sight, name), depth-1)
			a.fill("}", sight)
		case k < 8 && kind == "item" && len(a.groups) > 0:
			a.use(sight)
		default:
			a.declaration(kind, sight, depth)
		}
	}
}

func (a *author) use(sight []string) {
	g := a.Intn(len(a.groups))
	count := a.groups[g]
	if a.Intn(20) == 0 {
		g, count = g+a.Intn(3), count+a.Intn(3)
	}
	a.fill(fmt.Sprintf("use g%d (%s ) ;", g, strings.TrimSuffix(strings.Repeat(" E ,", count), ",")), sight)
}

func (a *author) declaration(kind string, sight []string, depth int) {
	line := lines[kind][a.Intn(len(lines[kind]))]
	head, inner, has := strings.Cut(line, "{ ")
	if !has {
		a.fill(line, sight)
		return
	}
	a.fill(head+"{", sight)
	a.block(inner, sight, depth)
	a.fill("}", sight)
}

// text writes a policy's text.
func (a *author) text() string {
	a.out.WriteString("system s { ")
	var sight []string
	for range 2 + a.Intn(8) {
		switch a.Intn(3) {
		case 0:
			var params []string
			for range a.Intn(3) {
				params = append(params, a.fresh(sight))
			}
			a.out.WriteString(fmt.Sprintf("group g%d ( %s ) { ", len(a.groups), strings.Join(params, " , ")))
			a.block("item", append(sight[:len(sight):len(sight)], params...), 2)
			a.out.WriteString("} ")
			if a.groups = append(a.groups, len(params)); a.rarely() {
				a.groups = a.groups[:len(a.groups)-1]
			}
		case 1:
			name := a.fresh(sight)
			a.fill("const "+name+" = E ;", sight)
			sight = append(sight, name)
		default:
			a.block("item", sight, 3)
		}
	}
	a.out.WriteString("}")
	return a.out.String()
}

// texts runs a test of many texts at random, by several workers.
func texts(t *testing.T, seed int64, count int, test func(r *rand.Rand, src string)) {
	var all sync.WaitGroup
	for worker := range 4 {
		all.Add(1)
		go func() {
			defer all.Done()
			r := rand.New(rand.NewSource(seed + int64(worker)))
			for i := 0; i < count/4 && !t.Failed(); i++ {
				a := author{Rand: r, left: 40}
				test(r, a.text())
			}
		}()
	}
	all.Wait()
}

// tally counts refusals.
type tally struct {
	sync.Mutex
	of map[api.Errno]int
}

func (c *tally) add(why api.Errno) {
	c.Lock()
	defer c.Unlock()
	if c.of == nil {
		c.of = map[api.Errno]int{}
	}
	c.of[why]++
}

// alike holds Unfold against the model.
func alike(t *testing.T, src string) (api.Policy, api.Errno) {
	tree := read(t, src)
	p, at, why := Unfold(tree)
	want, wantAt, wantWhy := modelled(tree)
	if why != wantWhy || at != wantAt || told(p) != told(want) {
		t.Errorf("P8.1 to P8.3: %s\n%v at %d: %s\nwant %v at %d: %s", src, why, at, told(p), wantWhy, wantAt, told(want))
	}
	return p, why
}

// TestModel: P8.1 to P8.3 and P8.5 of texts at random.
func TestModel(t *testing.T) {
	t.Parallel()
	var count tally
	texts(t, 81, 12000, func(r *rand.Rand, src string) {
		p, why := alike(t, src)
		count.add(why)
		if why != api.OK {
			return
		}
		text, why := Write(p)
		if why != api.OK {
			t.Errorf("P8.5: %s: %v", src, why)
			return
		}
		back, at, why := Unfold(read(t, string(text)))
		if why != api.OK || unplaced(back) != unplaced(p) {
			t.Errorf("P8.5: %s\nwritten:\n%s\n%v at %d", src, text, why, at)
		}
	})
	for _, why := range []api.Errno{api.OK, api.ErrName, api.ErrTwice, api.ErrOver, api.ErrZero, api.ErrAssert, api.ErrCount, api.ErrMany, api.ErrLong} {
		if count.of[why] < 8 {
			t.Errorf("only %d of the texts: %v; %v", count.of[why], why, count.of)
		}
	}
}

// TestModelRunsOut: P8.1: texts at random whose work, or whose declarations,
// run out somewhere.
func TestModelRunsOut(t *testing.T) {
	t.Parallel()
	var count tally
	texts(t, 82, 240, func(r *rand.Rand, src string) {
		before := fmt.Sprintf("system s { each zz in 0 .. %d { start p ; } ", api.MaxItems-r.Intn(8))
		_, why := alike(t, strings.Replace(src, "system s { ", before, 1))
		count.add(why)
	})
	texts(t, 83, 80, func(r *rand.Rand, src string) {
		before := fmt.Sprintf("system s { each zz in 0 .. %d { } ", api.MaxWork-3-r.Intn(60))
		_, why := alike(t, strings.Replace(src, "system s { ", before, 1))
		count.add(why)
	})
	if count.of[api.ErrMany] < 60 || count.of[api.OK] < 60 {
		t.Errorf("%v", count.of)
	}
}

// same holds two texts against each other, but for offsets; P8.6 says nothing
// where one is refused by ErrMany.
func same(t *testing.T, one, other string) api.Errno {
	p, _, why := Unfold(read(t, one))
	q, _, whyToo := Unfold(read(t, other))
	if why == api.ErrMany || whyToo == api.ErrMany {
		return api.ErrMany
	}
	if why != whyToo || unplaced(p) != unplaced(q) {
		t.Errorf("P8.6: %v, %v:\n%s\n%s", why, whyToo, one, other)
	}
	return why
}

// TestPrinted: P8.6: a text and its printed form.
func TestPrinted(t *testing.T) {
	t.Parallel()
	texts(t, 86, 1200, func(r *rand.Rand, src string) {
		text, why := render.Print(read(t, src))
		if why != api.OK {
			t.Errorf("%s: %v", src, why)
			return
		}
		same(t, src, string(text))
	})
}

// TestEachSpeltOut: P8.6: an each, and in its place an if for each number.
func TestEachSpeltOut(t *testing.T) {
	t.Parallel()
	var count tally
	texts(t, 87, 2400, func(r *rand.Rand, src string) {
		inner := author{Rand: r, left: 10}
		sight := []string{"v"}
		inner.block("item", sight, 2)
		block := inner.out.String()
		head := strings.TrimSuffix(src, "}")
		from, to := r.Intn(4), r.Intn(6)
		spelt := ""
		for n := from; n < to; n++ {
			spelt += fmt.Sprintf("if 1 { const v = %d ; %s } ", n, block)
		}
		count.add(same(t, fmt.Sprintf("%seach v in %d .. %d { %s } ram 7 size 7 ; }", head, from, to, block), head+spelt+"ram 7 size 7 ; }"))
	})
	if count.of[api.OK] < 500 {
		t.Errorf("%v", count.of)
	}
}

// TestUseSpeltOut: P8.6: a use, and in its place an if with the parameters as
// consts.
func TestUseSpeltOut(t *testing.T) {
	t.Parallel()
	var count tally
	texts(t, 88, 2400, func(r *rand.Rand, src string) {
		inner := author{Rand: r, left: 10}
		inner.block("item", []string{"v", "w"}, 2)
		block := inner.out.String()
		x, y := r.Intn(5), r.Intn(5)
		head := strings.TrimSuffix(src, "}") + fmt.Sprintf("group zz ( v , w ) { %s } ", block)
		count.add(same(t, fmt.Sprintf("%suse zz ( %d , %d ) ; ram 7 size 7 ; }", head, x, y), fmt.Sprintf("%sif 1 { const v = %d ; const w = %d ; %s } ram 7 size 7 ; }", head, x, y, block)))
	})
	if count.of[api.OK] < 500 {
		t.Errorf("%v", count.of)
	}
}

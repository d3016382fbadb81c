package unfold

import (
	"strings"

	"bulkhead/api"
	"bulkhead/scan"
)

// draft is the tree of a flat policy's text. Items and nodes are put down in
// the order of the text: a name ahead of the numbers behind it, an item ahead
// of those of its block.
type draft struct {
	tree  api.Tree
	wrong bool
}

// demand notes whether something holds that must.
func (d *draft) demand(holds bool) {
	d.wrong = d.wrong || !holds
}

// numbers puts integers down.
func (d *draft) numbers(list ...uint64) []int {
	var roots []int
	for _, n := range list {
		roots = append(roots, len(d.tree.Nodes))
		d.tree.Nodes = append(d.tree.Nodes, api.Node{Op: api.XInt, N: n})
	}
	return roots
}

// name puts a flat name down: its numbers are the indices.
func (d *draft) name(flat string) api.Ref {
	if !scan.Named(flat) {
		d.wrong = true
		return api.Ref{}
	}
	words := strings.Split(flat, ".")
	ref := api.Ref{Word: words[0]}
	for _, digits := range words[1:] {
		ref.Index = append(ref.Index, d.numbers(decimal(digits))...)
	}
	return ref
}

// decimal tells the number that digits are.
func decimal(digits string) uint64 {
	var n uint64
	for _, digit := range []byte(digits) {
		n = n*10 + uint64(digit-'0')
	}
	return n
}

// when is a flag, if it is set.
func when(set bool, flag int) int {
	if set {
		return flag
	}
	return 0
}

// item puts an item down, and tells its number.
func (d *draft) item(it api.Item) int {
	d.tree.Items = append(d.tree.Items, it)
	return len(d.tree.Items) - 1
}

// listed puts down what a list holds, one behind the other.
func listed[T any](list []T, put func(T) int) []int {
	var items []int
	for _, x := range list {
		items = append(items, put(x))
	}
	return items
}

// policy puts down all of a policy.
func (d *draft) policy(p api.Policy) {
	d.demand(scan.Legal(p.Name))
	d.tree.Name.Word = p.Name
	for _, family := range [][]int{
		listed(p.Rams, d.ram),
		listed(p.Devices, d.device),
		listed(p.Regions, d.region),
		listed(p.Subjects, d.subject),
		listed(p.Channels, d.channel),
		listed(p.Irqs, d.irq),
		listed(p.Plans, d.plan),
		listed(p.Masters, d.master),
		listed(p.Starts, d.start),
	} {
		d.tree.Top = append(d.tree.Top, family...)
	}
}

func (d *draft) ram(r api.Ram) int {
	return d.item(api.Item{Kind: api.IRam, E: d.numbers(r.At, r.Size)})
}

func (d *draft) device(v api.Device) int {
	n := d.item(api.Item{
		Kind:  api.IDevice,
		Name:  d.name(v.Name),
		E:     d.numbers(v.At, v.Size),
		Flags: when(len(v.Maps) > 0, api.FDma),
	})
	d.tree.Items[n].Kids = listed(v.Maps, d.mapping)
	return n
}

func (d *draft) region(r api.Region) int {
	d.demand(r.Fixed || r.At == 0)
	d.demand(r.Texted || r.Text == "")
	d.demand(!r.Texted || r.Fill == 0)
	it := api.Item{
		Kind:  api.IRegion,
		Name:  d.name(r.Name),
		E:     d.numbers(r.Size),
		Flags: when(r.Big, api.FBig) | when(r.Wx, api.FWx) | when(r.Texted, api.FText),
		Text:  r.Text,
	}
	if r.Fixed {
		it.Flags |= api.FAt
		it.E = append(it.E, d.numbers(r.At)...)
	}
	if r.Fill != 0 {
		it.Flags |= api.FFill
		it.E = append(it.E, d.numbers(r.Fill)...)
	}
	return d.item(it)
}

func (d *draft) subject(s api.Subject) int {
	n := d.item(api.Item{
		Kind:  api.ISubject,
		Name:  d.name(s.Name),
		E:     d.numbers(s.CPU),
		Flags: when(s.Stopped, api.FStopped),
	})
	maps := listed(s.Maps, d.mapping)
	d.tree.Items[n].Kids = append(maps, listed(s.Rules, d.rule)...)
	return n
}

func (d *draft) mapping(m api.Map) int {
	return d.item(api.Item{
		Kind:  api.IMap,
		Name:  d.name(m.Of),
		E:     d.numbers(m.At),
		Flags: when(m.Write, api.FWrite) | when(m.Exec, api.FExec),
	})
}

func (d *draft) rule(r api.Rule) int {
	it := api.Item{Kind: api.IFault, How: r.How}
	if r.How == api.ByVector {
		it.To = d.name(r.To)
		it.E = d.numbers(r.Vector)
		return d.item(it)
	}
	d.demand(r.How == api.ByReset || r.How == api.ByStop)
	d.demand(r.To == "" && r.Vector == 0)
	return d.item(it)
}

func (d *draft) channel(c api.Channel) int {
	it := api.Item{Kind: api.IChannel, Name: d.name(c.Name), From: d.name(c.From), To: d.name(c.To), How: c.How}
	if c.Shared {
		it.Flags = api.FOver
		it.Over = d.name(c.Over)
	}
	if c.How == api.ByVector {
		it.E = d.numbers(c.Vector)
	}
	d.demand(c.Shared || c.Over == "")
	d.demand(c.How >= api.ByVector && c.How <= api.ByStart)
	d.demand(c.How == api.ByVector || c.Vector == 0)
	return d.item(it)
}

func (d *draft) irq(i api.IrqLine) int {
	return d.item(api.Item{
		Kind:  api.IIrq,
		Name:  d.name(i.Name),
		From:  d.name(i.From),
		To:    d.name(i.To),
		E:     d.numbers(i.Vector),
		Flags: when(i.Masked, api.FMasked),
	})
}

func (d *draft) plan(p api.Plan) int {
	n := d.item(api.Item{Kind: api.IPlan, Name: d.name(p.Name), E: d.numbers(p.Major)})
	d.tree.Items[n].Kids = listed(p.Lanes, d.lane)
	return n
}

func (d *draft) lane(l api.Lane) int {
	n := d.item(api.Item{Kind: api.ILane, E: d.numbers(l.CPU), Flags: when(l.Needs, api.FNeeds)})
	if l.Needs {
		d.tree.Items[n].Kids = listed(l.Runs, d.need)
	} else {
		d.tree.Items[n].Kids = listed(l.Runs, d.run)
	}
	return n
}

func (d *draft) need(r api.Run) int {
	return d.item(api.Item{Kind: api.INeed, Name: d.name(r.Subject), E: d.numbers(r.Budget, r.Period)})
}

// run puts down a run, or an idle, whose subject is empty.
func (d *draft) run(r api.Run) int {
	d.demand(r.Period == 0)
	if r.Subject == "" {
		return d.item(api.Item{Kind: api.IIdle, E: d.numbers(r.Budget)})
	}
	return d.item(api.Item{Kind: api.IRun, Name: d.name(r.Subject), E: d.numbers(r.Budget)})
}

func (d *draft) master(p api.Pick) int {
	return d.item(api.Item{Kind: api.IMaster, Name: d.name(p.Name)})
}

func (d *draft) start(p api.Pick) int {
	return d.item(api.Item{Kind: api.IStart, Name: d.name(p.Name)})
}

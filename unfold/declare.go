package unfold

import (
	"bulkhead/api"
	"bulkhead/scan"
)

// declaration is a declaration whose names and numbers are worked out.
type declaration struct {
	*api.Item
	name, from, to, over string
	numbers              []uint64 // those that were not taken yet
}

// declare makes what a declaration declares.
func (w *works) declare(it *api.Item, in *block) {
	var names [4]string
	for i, ref := range refs(it) {
		names[i] = w.told(ref, in)
	}
	d := declaration{it, names[0], names[1], names[2], names[3], w.values(it.E, in)}
	if w.made == api.MaxItems {
		w.refuse(it.Pos, api.ErrMany)
	}
	w.made++
	switch it.Kind {
	case api.IMap, api.IFault, api.ILane, api.IRun, api.IIdle, api.INeed:
		w.part(&d)
	default:
		w.whole(&d)
	}
}

// told tells a name with its indices' numbers.
func (w *works) told(ref api.Ref, in *block) string {
	name := []byte(ref.Word)
	for _, root := range ref.Index {
		name = append(name, '.')
		name = append(name, scan.Number(w.value(root, in))...)
	}
	if len(name) > api.MaxName {
		w.refuse(ref.At, api.ErrLong)
	}
	return string(name)
}

// has tells whether a flag is set.
func (d *declaration) has(flag int) bool { return d.Flags&flag != 0 }

// number takes the next number.
func (d *declaration) number() uint64 {
	n := d.numbers[0]
	d.numbers = d.numbers[1:]
	return n
}

// numberIf takes the next number, if it is there.
func (d *declaration) numberIf(there bool) uint64 {
	if !there {
		return 0
	}
	return d.number()
}

// last is the last one of a list.
func last[T any](list []T) *T { return &list[len(list)-1] }

// whole makes what stands in the policy itself.
func (w *works) whole(d *declaration) {
	p := &w.policy
	switch d.Kind {
	case api.IRam:
		p.Rams = append(p.Rams, api.Ram{Pos: d.Pos, At: d.number(), Size: d.number()})
	case api.IDevice:
		p.Devices = append(p.Devices, api.Device{Pos: d.Pos, Name: d.name, At: d.number(), Size: d.number()})
		w.maps = &last(p.Devices).Maps
	case api.IRegion:
		p.Regions = append(p.Regions, d.region())
	case api.ISubject:
		p.Subjects = append(p.Subjects, api.Subject{Pos: d.Pos, Name: d.name, CPU: d.number(), Stopped: d.has(api.FStopped)})
		w.maps = &last(p.Subjects).Maps
	case api.IChannel:
		p.Channels = append(p.Channels, d.channel())
	case api.IIrq:
		p.Irqs = append(p.Irqs, api.IrqLine{Pos: d.Pos, Name: d.name, From: d.from, To: d.to, Vector: d.number(), Masked: d.has(api.FMasked)})
	case api.IPlan:
		p.Plans = append(p.Plans, api.Plan{Pos: d.Pos, Name: d.name, Major: d.number()})
	case api.IMaster:
		p.Masters = append(p.Masters, api.Pick{Pos: d.Pos, Name: d.name})
	case api.IStart:
		p.Starts = append(p.Starts, api.Pick{Pos: d.Pos, Name: d.name})
	}
}

func (d *declaration) region() api.Region {
	return api.Region{
		Pos:    d.Pos,
		Name:   d.name,
		Size:   d.number(),
		Fixed:  d.has(api.FAt),
		At:     d.numberIf(d.has(api.FAt)),
		Big:    d.has(api.FBig),
		Wx:     d.has(api.FWx),
		Fill:   d.numberIf(d.has(api.FFill)),
		Texted: d.has(api.FText),
		Text:   d.Text,
	}
}

func (d *declaration) channel() api.Channel {
	return api.Channel{
		Pos:    d.Pos,
		Name:   d.name,
		From:   d.from,
		To:     d.to,
		Shared: d.has(api.FOver),
		Over:   d.over,
		How:    d.How,
		Vector: d.numberIf(d.How == api.ByVector),
	}
}

// part makes what stands in the block of another declaration: in that of the
// one of its kind that was made last.
func (w *works) part(d *declaration) {
	switch d.Kind {
	case api.IMap:
		*w.maps = append(*w.maps, api.Map{Pos: d.Pos, Of: d.name, At: d.number(), Write: d.has(api.FWrite), Exec: d.has(api.FExec)})
	case api.IFault:
		rules := &last(w.policy.Subjects).Rules
		*rules = append(*rules, api.Rule{Pos: d.Pos, How: d.How, To: d.to, Vector: d.numberIf(d.How == api.ByVector)})
	case api.ILane:
		lanes := &last(w.policy.Plans).Lanes
		*lanes = append(*lanes, api.Lane{Pos: d.Pos, CPU: d.number(), Needs: d.has(api.FNeeds)})
	default:
		runs := &last(last(w.policy.Plans).Lanes).Runs
		*runs = append(*runs, api.Run{Pos: d.Pos, Subject: d.name, Budget: d.number(), Period: d.numberIf(d.Kind == api.INeed)})
	}
}

package syntax

import "bulkhead/api"

// parser reads a policy into its tree. A method that reads what is not there
// refuses the text and does not come back.
type parser struct {
	lexemes
	tree api.Tree
}

// policy reads all of it.
func (p *parser) policy() {
	p.needs("system")
	p.tree.Pos = p.last.At
	p.tree.Name = p.word()
	p.tree.Top = p.block(p.inPolicy)
	p.ends()
}

// block reads a block whose items one reads, each by itself: their numbers.
func (p *parser) block(one func()) []int {
	p.needs("{")
	var kids []int
	for !p.takes("}") {
		kids = append(kids, len(p.tree.Items))
		one()
	}
	return kids
}

// keep reads an item behind its keyword. Its number is taken ahead of those of
// the items in its blocks.
func (p *parser) keep(kind int, read func(x *api.Item)) {
	x := api.Item{Kind: kind, Pos: p.last.At}
	n := len(p.tree.Items)
	p.tree.Items = append(p.tree.Items, x)
	read(&x)
	p.tree.Items[n] = x
}

// inPolicy reads an item of the policy's own block.
func (p *parser) inPolicy() {
	if p.takes("group") {
		p.keep(api.IGroup, p.group)
		return
	}
	p.inGroup()
}

// inGroup reads an item of a group's block.
func (p *parser) inGroup() {
	switch {
	case p.inner(p.inGroup):
	case p.takes("use"):
		p.keep(api.IUse, p.use)
	case p.takes("ram"):
		p.keep(api.IRam, p.ram)
	case p.takes("device"):
		p.keep(api.IDevice, p.device)
	case p.takes("region"):
		p.keep(api.IRegion, p.region)
	case p.takes("subject"):
		p.keep(api.ISubject, p.subject)
	case p.takes("channel"):
		p.keep(api.IChannel, p.channel)
	case p.takes("irq"):
		p.keep(api.IIrq, p.irq)
	case p.takes("plan"):
		p.keep(api.IPlan, p.plan)
	case p.takes("master"):
		p.keep(api.IMaster, p.pick)
	case p.takes("start"):
		p.keep(api.IStart, p.pick)
	default:
		p.refuse()
	}
}

// inDevice reads an item of a device's block.
func (p *parser) inDevice() {
	switch {
	case p.inner(p.inDevice):
	case p.takes("map"):
		p.keep(api.IMap, p.mapping)
	default:
		p.refuse()
	}
}

// inSubject reads an item of a subject's block.
func (p *parser) inSubject() {
	switch {
	case p.inner(p.inSubject):
	case p.takes("map"):
		p.keep(api.IMap, p.mapping)
	case p.takes("fault"):
		p.keep(api.IFault, p.fault)
	default:
		p.refuse()
	}
}

// inPlan reads an item of a plan's block.
func (p *parser) inPlan() {
	switch {
	case p.inner(p.inPlan):
	case p.takes("cpu"):
		p.keep(api.ILane, p.lane)
	default:
		p.refuse()
	}
}

// inLane reads an item of a lane's block of runs.
func (p *parser) inLane() {
	switch {
	case p.inner(p.inLane):
	case p.takes("run"):
		p.keep(api.IRun, p.run)
	case p.takes("idle"):
		p.keep(api.IIdle, p.idle)
	default:
		p.refuse()
	}
}

// inNeeds reads an item of a lane's block of needs.
func (p *parser) inNeeds() {
	switch {
	case p.inner(p.inNeeds):
	case p.takes("need"):
		p.keep(api.INeed, p.need)
	default:
		p.refuse()
	}
}

// inner reads an item of those that may stand in every block, if one comes
// next; one reads the items of the block in which it stands, and so of its own.
func (p *parser) inner(one func()) bool {
	switch {
	case p.takes("const"):
		p.keep(api.IConst, p.constant)
	case p.takes("assert"):
		p.keep(api.IAssert, p.assertion)
	case p.takes("each"):
		p.keep(api.IEach, func(x *api.Item) { p.rounds(x, one) })
	case p.takes("if"):
		p.keep(api.IIf, func(x *api.Item) { p.choice(x, one) })
	default:
		return false
	}
	return true
}

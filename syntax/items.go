package syntax

import "bulkhead/api"

// The readers of items, each from behind its keyword on.

func (p *parser) constant(x *api.Item) {
	x.Name = p.word()
	p.needs("=")
	p.value(x)
	p.needs(";")
}

func (p *parser) assertion(x *api.Item) {
	p.value(x)
	p.needs(";")
}

func (p *parser) rounds(x *api.Item, one func()) {
	x.Name = p.word()
	p.needs("in")
	p.value(x)
	p.needs("..")
	p.value(x)
	x.Kids = p.block(one)
}

func (p *parser) choice(x *api.Item, one func()) {
	p.value(x)
	x.Kids = p.block(one)
	if p.flag(x, "else", api.FElse) {
		x.Else = p.block(one)
	}
}

func (p *parser) group(x *api.Item) {
	x.Name = p.word()
	p.row(func() { x.Params = append(x.Params, p.word()) })
	x.Kids = p.block(p.inGroup)
}

func (p *parser) use(x *api.Item) {
	x.Name = p.word()
	p.row(func() { p.value(x) })
	p.needs(";")
}

func (p *parser) ram(x *api.Item) {
	p.value(x)
	p.needs("size")
	p.value(x)
	p.needs(";")
}

func (p *parser) device(x *api.Item) {
	x.Name = p.name()
	p.needs("at")
	p.value(x)
	p.needs("size")
	p.value(x)
	if p.flag(x, "dma", api.FDma) {
		x.Kids = p.block(p.inDevice)
		return
	}
	p.needs(";")
}

func (p *parser) region(x *api.Item) {
	x.Name = p.name()
	p.needs("size")
	p.value(x)
	if p.flag(x, "at", api.FAt) {
		p.value(x)
	}
	p.flag(x, "big", api.FBig)
	p.flag(x, "wx", api.FWx)
	if p.takes("fill") {
		p.fill(x)
	}
	p.needs(";")
}

func (p *parser) fill(x *api.Item) {
	if p.takesKind(api.TText) {
		x.Flags |= api.FText
		x.Text = p.last.S
		return
	}
	x.Flags |= api.FFill
	p.value(x)
}

func (p *parser) subject(x *api.Item) {
	x.Name = p.name()
	p.needs("cpu")
	p.value(x)
	p.flag(x, "stopped", api.FStopped)
	x.Kids = p.block(p.inSubject)
}

func (p *parser) channel(x *api.Item) {
	p.route(x)
	if p.flag(x, "over", api.FOver) {
		x.Over = p.name()
	}
	switch {
	case p.takes("reset"):
		x.How = api.ByReset
	case p.takes("stop"):
		x.How = api.ByStop
	case p.takes("start"):
		x.How = api.ByStart
	default:
		x.How = api.ByVector
		p.vector(x)
	}
	p.needs(";")
}

func (p *parser) irq(x *api.Item) {
	p.route(x)
	p.vector(x)
	p.flag(x, "masked", api.FMasked)
	p.needs(";")
}

func (p *parser) plan(x *api.Item) {
	x.Name = p.name()
	p.needs("major")
	p.value(x)
	x.Kids = p.block(p.inPlan)
}

func (p *parser) pick(x *api.Item) {
	x.Name = p.name()
	p.needs(";")
}

func (p *parser) mapping(x *api.Item) {
	x.Name = p.name()
	p.needs("at")
	p.value(x)
	p.flag(x, "write", api.FWrite)
	p.flag(x, "exec", api.FExec)
	p.needs(";")
}

func (p *parser) fault(x *api.Item) {
	switch {
	case p.takes("stop"):
		x.How = api.ByStop
	case p.takes("reset"):
		x.How = api.ByReset
	default:
		p.needs("tell")
		x.How = api.ByVector
		x.To = p.name()
		p.vector(x)
	}
	p.needs(";")
}

func (p *parser) lane(x *api.Item) {
	p.value(x)
	if p.flag(x, "needs", api.FNeeds) {
		x.Kids = p.block(p.inNeeds)
		return
	}
	x.Kids = p.block(p.inLane)
}

func (p *parser) run(x *api.Item) {
	x.Name = p.name()
	p.value(x)
	p.needs(";")
}

func (p *parser) idle(x *api.Item) {
	p.value(x)
	p.needs(";")
}

func (p *parser) need(x *api.Item) {
	x.Name = p.name()
	p.value(x)
	p.needs("every")
	p.value(x)
	p.needs(";")
}

// flag reads a word and keeps that it stands there, if it comes next.
func (p *parser) flag(x *api.Item, word string, flag int) bool {
	if !p.takes(word) {
		return false
	}
	x.Flags |= flag
	return true
}

// route reads what a channel and an interrupt begin with: its name and its ends.
func (p *parser) route(x *api.Item) {
	x.Name = p.name()
	p.needs("from")
	x.From = p.name()
	p.needs("to")
	x.To = p.name()
}

// vector reads a vector.
func (p *parser) vector(x *api.Item) {
	p.needs("vector")
	p.value(x)
}

// value reads an expression of an item.
func (p *parser) value(x *api.Item) { x.E = append(x.E, p.expr()) }

// row reads parts in parentheses, with commas between; there may be none.
func (p *parser) row(part func()) {
	p.needs("(")
	if p.takes(")") {
		return
	}
	part()
	for p.takes(",") {
		part()
	}
	p.needs(")")
}

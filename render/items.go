package render

import (
	"bulkhead/api"
	"bulkhead/scan"
)

// entry is an item of a tree of which the fields that have been written are
// taken away: what its kind does not use is what is left.
type entry struct {
	*sheet
	api.Item
}

// spent tells whether nothing is left.
func (x *entry) spent() bool {
	for _, ref := range []api.Ref{x.Name, x.From, x.To, x.Over} {
		if ref.Word != "" || len(ref.Index) > 0 {
			return false
		}
	}
	lists := len(x.Params) + len(x.E) + len(x.Kids) + len(x.Else)
	return lists == 0 && x.Flags == 0 && x.How == 0 && x.Text == ""
}

// lines writes an item that stands in this kind of block.
func (x *entry) lines(block int) {
	switch x.Kind {
	case api.IConst:
		x.constant()
	case api.IAssert:
		x.assertion()
	case api.IEach:
		x.rounds(within(block))
	case api.IIf:
		x.choice(within(block))
	case api.IGroup:
		x.group()
	case api.IUse:
		x.use()
	case api.IRam:
		x.ram()
	case api.IDevice:
		x.device()
	case api.IRegion:
		x.region()
	case api.ISubject:
		x.subject()
	case api.IChannel:
		x.channel()
	case api.IIrq:
		x.irq()
	case api.IPlan:
		x.plan()
	case api.IMaster:
		x.pick("master")
	case api.IStart:
		x.pick("start")
	case api.IMap:
		x.mapping()
	case api.IFault:
		x.fault()
	case api.ILane:
		x.lane()
	case api.IRun:
		x.run()
	case api.IIdle:
		x.idle()
	case api.INeed:
		x.need()
	}
}

func (x *entry) constant() {
	x.lexemes("const")
	x.called()
	x.lexemes("=")
	x.value()
	x.lexemes(";")
}

func (x *entry) assertion() {
	x.lexemes("assert")
	x.value()
	x.lexemes(";")
}

func (x *entry) rounds(block int) {
	x.lexemes("each")
	x.called()
	x.lexemes("in")
	x.value()
	x.lexemes("..")
	x.value()
	x.kids(block)
}

func (x *entry) choice(block int) {
	x.lexemes("if")
	x.value()
	x.kids(block)
	if x.flag(api.FElse, "else") {
		x.block(x.Else, block)
		x.Else = nil
	}
}

func (x *entry) group() {
	x.lexemes("group")
	x.called()
	x.row(len(x.Params), func(i int) { x.word(x.Params[i]) })
	x.Params = nil
	x.kids(ofGroup)
}

func (x *entry) use() {
	x.lexemes("use")
	x.called()
	x.row(len(x.E), func(int) { x.value() })
	x.lexemes(";")
}

func (x *entry) ram() {
	x.lexemes("ram")
	x.value()
	x.lexemes("size")
	x.value()
	x.lexemes(";")
}

func (x *entry) device() {
	x.lexemes("device")
	x.ref(&x.Name)
	x.lexemes("at")
	x.value()
	x.lexemes("size")
	x.value()
	if x.flag(api.FDma, "dma") {
		x.kids(ofDevice)
		return
	}
	x.lexemes(";")
}

func (x *entry) region() {
	x.lexemes("region")
	x.ref(&x.Name)
	x.lexemes("size")
	x.value()
	if x.flag(api.FAt, "at") {
		x.value()
	}
	x.flag(api.FBig, "big")
	x.flag(api.FWx, "wx")
	if x.flag(api.FText, "fill") {
		x.lexemes(string(scan.Quote(x.Text)))
		x.Text = ""
	} else if x.flag(api.FFill, "fill") {
		x.value()
	}
	x.lexemes(";")
}

func (x *entry) subject() {
	x.lexemes("subject")
	x.ref(&x.Name)
	x.lexemes("cpu")
	x.value()
	x.flag(api.FStopped, "stopped")
	x.kids(ofSubject)
}

func (x *entry) channel() {
	x.lexemes("channel")
	x.route()
	if x.flag(api.FOver, "over") {
		x.ref(&x.Over)
	}
	switch x.How {
	case api.ByVector:
		x.vector()
	case api.ByReset:
		x.lexemes("reset")
	case api.ByStop:
		x.lexemes("stop")
	case api.ByStart:
		x.lexemes("start")
	default:
		x.wrong = true
	}
	x.How = 0
	x.lexemes(";")
}

func (x *entry) irq() {
	x.lexemes("irq")
	x.route()
	x.vector()
	x.flag(api.FMasked, "masked")
	x.lexemes(";")
}

func (x *entry) plan() {
	x.lexemes("plan")
	x.ref(&x.Name)
	x.lexemes("major")
	x.value()
	x.kids(ofPlan)
}

// pick writes a master or a start.
func (x *entry) pick(keyword string) {
	x.lexemes(keyword)
	x.ref(&x.Name)
	x.lexemes(";")
}

func (x *entry) mapping() {
	x.lexemes("map")
	x.ref(&x.Name)
	x.lexemes("at")
	x.value()
	x.flag(api.FWrite, "write")
	x.flag(api.FExec, "exec")
	x.lexemes(";")
}

func (x *entry) fault() {
	x.lexemes("fault")
	switch x.How {
	case api.ByStop:
		x.lexemes("stop")
	case api.ByReset:
		x.lexemes("reset")
	case api.ByVector:
		x.lexemes("tell")
		x.ref(&x.To)
		x.vector()
	default:
		x.wrong = true
	}
	x.How = 0
	x.lexemes(";")
}

func (x *entry) lane() {
	x.lexemes("cpu")
	x.value()
	if x.flag(api.FNeeds, "needs") {
		x.kids(ofNeeds)
		return
	}
	x.kids(ofLane)
}

func (x *entry) run() {
	x.lexemes("run")
	x.ref(&x.Name)
	x.value()
	x.lexemes(";")
}

func (x *entry) idle() {
	x.lexemes("idle")
	x.value()
	x.lexemes(";")
}

func (x *entry) need() {
	x.lexemes("need")
	x.ref(&x.Name)
	x.value()
	x.lexemes("every")
	x.value()
	x.lexemes(";")
}

// called writes the name of an item whose name has no indices.
func (x *entry) called() {
	x.word(x.Name)
	x.Name = api.Ref{}
}

// ref writes one of the item's names.
func (x *entry) ref(field *api.Ref) {
	x.name(*field)
	*field = api.Ref{}
}

// value writes the next one of the item's expressions.
func (x *entry) value() {
	if len(x.E) == 0 {
		x.wrong = true
		return
	}
	x.root(x.E[0])
	x.E = x.E[1:]
}

// flag writes a word, if its flag is set.
func (x *entry) flag(flag int, word string) bool {
	if x.Flags&flag == 0 {
		return false
	}
	x.Flags &^= flag
	x.lexemes(word)
	return true
}

// kids writes the item's block.
func (x *entry) kids(block int) {
	x.block(x.Kids, block)
	x.Kids = nil
}

// route writes what a channel and an interrupt begin with: its name and its
// ends.
func (x *entry) route() {
	x.ref(&x.Name)
	x.lexemes("from")
	x.ref(&x.From)
	x.lexemes("to")
	x.ref(&x.To)
}

// vector writes a vector.
func (x *entry) vector() {
	x.lexemes("vector")
	x.value()
}

package render

import "bulkhead/api"

// The kinds of blocks, by whose items stand in them.
const (
	ofPolicy = iota
	ofGroup
	ofDevice
	ofSubject
	ofPlan
	ofLane
	ofNeeds
)

// stands tells whether an item of a kind may stand in a kind of block.
func stands(kind, block int) bool {
	switch kind {
	case api.IConst, api.IAssert, api.IEach, api.IIf:
		return true
	case api.IGroup:
		return block == ofPolicy
	case api.IUse, api.IRam, api.IDevice, api.IRegion, api.ISubject, api.IChannel, api.IIrq, api.IPlan, api.IMaster, api.IStart:
		return block == ofPolicy || block == ofGroup
	case api.IMap:
		return block == ofDevice || block == ofSubject
	case api.IFault:
		return block == ofSubject
	case api.ILane:
		return block == ofPlan
	case api.IRun, api.IIdle:
		return block == ofLane
	case api.INeed:
		return block == ofNeeds
	}
	return false
}

// within tells the kind of the blocks of an each or an if that stands in a
// block: a policy's groups stand in its own block alone.
func within(block int) int {
	if block == ofPolicy {
		return ofGroup
	}
	return block
}

// policy writes all of the tree.
func (s *sheet) policy() {
	s.lexemes("system")
	s.word(s.tree.Name)
	s.block(s.tree.Top, ofPolicy)
	s.end()
}

// block writes a block from its bracket on; the line of the last bracket may go
// on behind it.
func (s *sheet) block(items []int, block int) {
	s.lexemes("{")
	s.end()
	s.depth++
	for _, n := range items {
		s.item(n, block)
	}
	s.depth--
	s.begin()
	s.lexemes("}")
}

// item writes the item that comes next in the text, with its block.
func (s *sheet) item(n, block int) {
	if s.wrong || n != s.items || n >= len(s.tree.Items) || !stands(s.tree.Items[n].Kind, block) {
		s.wrong = true
		return
	}
	s.items++
	s.begin()
	x := entry{sheet: s, Item: s.tree.Items[n]}
	x.lines(block)
	s.needs(x.spent())
	s.end()
}

package unfold

import "math"

// known is the number that a name stands for, and the item that brought it in.
type known struct {
	number uint64
	item   int
}

// everything is above the number of each item.
const everything = math.MaxInt

// block is what is in sight in a block: the names that it has brought in
// itself, and those of the blocks around it.
type block struct {
	names  map[string]known
	below  int // what this item or a later one brought in is not in sight
	around *block
}

// find tells the number of a name that is in sight.
func (b *block) find(name string) (uint64, bool) {
	for ; b != nil; b = b.around {
		if k, ok := b.names[name]; ok && k.item < b.below {
			return k.number, true
		}
	}
	return 0, false
}

// bring brings a name into sight.
func (b *block) bring(name string, number uint64, item int) {
	if b.names == nil {
		b.names = make(map[string]known)
	}
	b.names[name] = known{number: number, item: item}
}

// inside opens a block in this one.
func (b *block) inside() *block {
	around := b
	if len(b.names) == 0 && b.around != nil {
		// It brings in nothing while a block in it is open: whoever looks
		// out of that one need not stop here.
		around = b.around
	}
	return &block{below: everything, around: around}
}

// at opens a block in this one, the policy's own, as it was seen at a group.
func (b *block) at(group int) *block {
	seen := &block{names: b.names, below: group}
	return seen.inside()
}

// ahead tells the item ahead of which a use's group must stand: the group in
// whose block the use is gone through; everything, if it is in none.
func (b *block) ahead() int {
	for b.around != nil {
		b = b.around
	}
	return b.below
}

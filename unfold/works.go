package unfold

import "bulkhead/api"

// works is a tree on its way to a flat policy.
type works struct {
	tree      api.Tree
	policy    api.Policy
	operators map[int]operator
	own       *block         // the policy's own block
	groups    map[string]int // the items of the groups that were met
	open      []stretch      // the blocks that are gone through, the innermost last
	pile      []uint64       // room for an expression's numbers
	maps      *[]api.Map     // of the device or the subject that was made last
	spent     uint64         // of api.MaxWork
	made      int            // of api.MaxItems
	wrong     int
	why       api.Errno
}

// stretch is a block of which the items from next on are still to be gone
// through, before its next round begins, if there is one. (A chain of uses can
// be far longer than any nesting: it is no chain of calls.)
type stretch struct {
	items []int
	next  int
	in    *block
	again func() bool
}

// start makes the works of a tree.
func start(t api.Tree) *works {
	return &works{
		tree:      t,
		policy:    api.Policy{Pos: t.Pos, Name: t.Name.Word},
		operators: operators(),
		own:       &block{names: make(map[string]known), below: everything},
		groups:    make(map[string]int),
	}
}

// refuse ends everything. (The face catches it.)
func (w *works) refuse(at int, why api.Errno) {
	w.wrong, w.why = at, why
	panic(why)
}

// all goes through the whole tree.
func (w *works) all() {
	w.enter(w.tree.Top, w.own)
	for len(w.open) > 0 {
		s := &w.open[len(w.open)-1]
		switch {
		case s.next < len(s.items):
			s.next++
			w.item(s.items[s.next-1], s.in)
		case s.again():
			s.next = 0
		default:
			w.open = w.open[:len(w.open)-1]
		}
	}
}

// enter goes on with a block's items, once.
func (w *works) enter(items []int, in *block) {
	never := func() bool { return false }
	w.open = append(w.open, stretch{items: items, in: in, again: never})
}

// pay takes a cost on.
func (w *works) pay(cost uint64, at int) {
	if cost > api.MaxWork-w.spent {
		w.refuse(at, api.ErrMany)
	}
	w.spent += cost
}

// refs lists the names of an item that may have indices, in the order of the
// text; those that it has not are zero.
func refs(it *api.Item) [4]api.Ref {
	return [4]api.Ref{it.Name, it.From, it.To, it.Over}
}

// item goes through an item, but for its block's items: these are the next.
func (w *works) item(n int, in *block) {
	it := &w.tree.Items[n]
	cost := 1 + w.nodes(it.E)
	for _, ref := range refs(it) {
		cost += w.nodes(ref.Index)
	}
	w.pay(cost, it.Pos)
	switch it.Kind {
	case api.IConst:
		w.unseen(it.Name, in)
		in.bring(it.Name.Word, w.value(it.E[0], in), n)
	case api.IAssert:
		if w.value(it.E[0], in) == 0 {
			w.refuse(it.Pos, api.ErrAssert)
		}
	case api.IIf:
		w.choose(it, in)
	case api.IEach:
		w.each(n, in)
	case api.IGroup:
		w.group(n, in)
	case api.IUse:
		w.use(it, in)
	default:
		w.declare(it, in)
		w.enter(it.Kids, in.inside())
	}
}

// unseen refuses a name that is in sight where it is to be brought in.
func (w *works) unseen(name api.Ref, in *block) {
	if _, ok := in.find(name.Word); ok {
		w.refuse(name.At, api.ErrTwice)
	}
}

func (w *works) choose(it *api.Item, in *block) {
	if w.value(it.E[0], in) != 0 {
		w.enter(it.Kids, in.inside())
	} else {
		w.enter(it.Else, in.inside())
	}
}

func (w *works) each(n int, in *block) {
	it := &w.tree.Items[n]
	w.unseen(it.Name, in)
	number, to := w.value(it.E[0], in), w.value(it.E[1], in)
	if number >= to {
		return
	}
	w.pay(to-number, it.Pos)
	inside := in.inside()
	again := func() bool {
		if number == to {
			return false
		}
		clear(inside.names)
		inside.bring(it.Name.Word, number, n)
		number++
		return true
	}
	w.open = append(w.open, stretch{items: it.Kids, next: len(it.Kids), in: inside, again: again})
}

func (w *works) group(n int, in *block) {
	it := &w.tree.Items[n]
	if _, ok := w.groups[it.Name.Word]; ok {
		w.refuse(it.Name.At, api.ErrTwice)
	}
	w.groups[it.Name.Word] = n
	inside := in.inside()
	for _, param := range it.Params {
		w.unseen(param, inside)
		inside.bring(param.Word, 0, n)
	}
}

func (w *works) use(it *api.Item, in *block) {
	n, ok := w.groups[it.Name.Word]
	if !ok || n >= in.ahead() {
		w.refuse(it.Name.At, api.ErrName)
	}
	group := &w.tree.Items[n]
	if len(it.E) != len(group.Params) {
		w.refuse(it.Name.At, api.ErrCount)
	}
	inside := w.own.at(n)
	for i, number := range w.values(it.E, in) {
		inside.bring(group.Params[i].Word, number, n)
	}
	w.enter(group.Kids, inside)
}

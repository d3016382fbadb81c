package flow

import (
	"cmp"
	"slices"

	"bulkhead/api"
)

// maxCount is what a count of actors that is higher counts as.
const maxCount = 1 << 20

// book holds a set of actors under each key.
type book[K comparable] map[K]map[int]struct{}

func (b book[K]) put(key K, actor int) {
	if b[key] == nil {
		b[key] = map[int]struct{}{}
	}
	b[key][actor] = struct{}{}
}

// each hands over what is held, in no order that may be seen.
func (b book[K]) each(see func(key K, actor int)) {
	for key, actors := range b {
		for actor := range actors {
			see(key, actor)
		}
	}
}

// net holds edges: under the actor that one leads to, the one it comes from.
type net struct{ into book[int] }

func newNet() net { return net{into: book[int]{}} }

func netOf(edges []api.Edge) net {
	n := newNet()
	for _, e := range edges {
		n.into.put(e.To, e.From)
	}
	return n
}

func (n net) has(e api.Edge) bool {
	_, ok := n.into[e.To][e.From]
	return ok
}

// without tells the edges that the other net hasn't, rising.
func (n net) without(other net) []api.Edge {
	var out []api.Edge
	n.into.each(func(to, from int) {
		if e := (api.Edge{From: from, To: to}); !other.has(e) {
			out = append(out, e)
		}
	})
	slices.SortFunc(out, func(a, b api.Edge) int {
		return cmp.Or(cmp.Compare(a.From, b.From), cmp.Compare(a.To, b.To))
	})
	return out
}

// counted is a count as the chapter takes it.
func counted(n int) int { return min(max(n, 0), maxCount) }

// reached holds v and all that have a way of edges to it; nobody, if v is no
// actor.
func reached(f api.Facts, v int) map[int]struct{} {
	found := map[int]struct{}{}
	actors := counted(f.Subjects) + counted(f.Devices)
	if v < 0 || v >= actors {
		return found
	}
	found[v] = struct{}{}
	open := []int{v}
	grow := func(e api.Edge) {
		if _, ok := found[e.From]; ok || e.From < 0 || e.From >= actors {
			return
		}
		found[e.From] = struct{}{}
		open = append(open, e.From)
	}
	into := netOf(f.Edges).into
	for len(open) > 0 {
		to := open[len(open)-1]
		open = open[:len(open)-1]
		for from := range into[to] {
			grow(api.Edge{From: from, To: to})
		}
	}
	return found
}

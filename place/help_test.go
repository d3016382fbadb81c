package place

import (
	"slices"
	"testing"

	"bulkhead/api"
	"bulkhead/syntax"
	"bulkhead/unfold"
)

const (
	kib = 1 << 10
	mib = 1 << 20
)

// policy is what a text means.
func policy(t testing.TB, src string) api.Policy {
	t.Helper()
	tree, at, why := syntax.Parse([]byte(src))
	if why != api.OK {
		t.Fatalf("%v, %v", at, why)
	}
	p, bad, why := unfold.Unfold(tree)
	if why != api.OK {
		t.Fatalf("%d, %v", bad, why)
	}
	return p
}

// of is a policy with one plan, and these lines. Its image has one page, as
// long as the lines don't say much.
func of(t testing.TB, lines string) api.Policy {
	t.Helper()
	return policy(t, "system s { "+lines+" plan p major 1 { } start p; }")
}

// three is a policy of ten pages of RAM, whose image has three pages, and
// these lines.
func three(t testing.TB, lines string) api.Policy {
	t.Helper()
	// One page ahead of the tables; a space that maps nothing has a root.
	return of(t, "ram 65536 size 40K; subject a cpu 0 { } subject b cpu 0 { } "+lines)
}

// copied is a policy that shares no list with the other one that place looks
// at.
func copied(p api.Policy) api.Policy {
	p.Rams = slices.Clone(p.Rams)
	p.Regions = slices.Clone(p.Regions)
	return p
}

// sameLayout tells whether two say the same.
func sameLayout(a, b api.Layout) bool {
	return slices.Equal(a.Regions, b.Regions) && a.Image == b.Image && a.Pages == b.Pages
}

// isNothing tells whether a layout is the zero one.
func isNothing(l api.Layout) bool { return sameLayout(l, api.Layout{}) }

package forge

import (
	"slices"

	"bulkhead/api"
	"bulkhead/bundle"
	"bulkhead/check"
	"bulkhead/place"
	"bulkhead/syntax"
	"bulkhead/unfold"
)

// work is a compilation: what its stages have made so far.
type work struct{ built Built }

// stage does one part of a compilation, or refuses.
type stage func() *Refusal

// through calls stages one behind the other, until one refuses.
func through(rows ...[]stage) *Refusal {
	for _, do := range slices.Concat(rows...) {
		if r := do(); r != nil {
			return r
		}
	}
	return nil
}

// reading are the stages from a text to a flat policy.
func (w *work) reading(src []byte) []stage {
	var tree api.Tree
	return []stage{
		func() *Refusal {
			read, at, why := syntax.Parse(src)
			tree = read
			return refused(at.At, why)
		},
		func() *Refusal {
			flat, at, why := unfold.Unfold(tree)
			w.built.Policy = flat
			return refused(at, why)
		},
	}
}

// checking is the stage that asks whether a policy can be built.
func (w *work) checking() []stage {
	return []stage{
		func() *Refusal { return refused(check.Check(w.built.Policy)) },
	}
}

// building are the stages from a policy that can be built to an image's bytes.
func (w *work) building() []stage {
	return []stage{
		func() *Refusal {
			laid, region, why := place.Lay(w.built.Policy)
			w.built.Layout = laid
			return refused(w.posOf(region), why)
		},
		func() *Refusal {
			bytes, why := bundle.Encode(drawn(w.built.Policy, w.built.Layout))
			w.built.Image = bytes
			return refused(w.built.Policy.Pos, why)
		},
	}
}

// posOf tells the Pos of a region; of the image, which has none, the policy's.
func (w *work) posOf(region int) int {
	if region < 0 {
		return w.built.Policy.Pos
	}
	return w.built.Policy.Regions[region].Pos
}

package syntax

import (
	"bytes"
	"fmt"
	"math/rand"
	"strings"
	"testing"

	"bulkhead/api"
	"bulkhead/scan"
)

// like tells whether two trees are alike; nil and empty lists are.
func like(a, b api.Tree) bool { return fmt.Sprintf("%+v", a) == fmt.Sprintf("%+v", b) }

// placeOf tells a place by counting.
func placeOf(src []byte, at int) api.Place {
	place := api.Place{At: at, Line: 1, Column: 1}
	for _, b := range src[:at] {
		place.Column++
		if b == '\n' {
			place.Line, place.Column = place.Line+1, 1
		}
	}
	return place
}

// refusedAt holds that a text is refused there, and all that R2 and R3 say.
func refusedAt(t *testing.T, src []byte, at int, why api.Errno) {
	t.Helper()
	was := bytes.Clone(src)
	tree, place, e := Parse(src)
	if e != why || place != placeOf(src, at) {
		t.Fatalf("P6.1: %.300q: %v %v, want %d %v", src, place, e, at, why)
	}
	if !like(tree, api.Tree{}) {
		t.Fatalf("R3: %.300q: %+v", src, tree)
	}
	if !bytes.Equal(src, was) {
		t.Fatalf("R2: %.300q was changed", was)
	}
}

// holds holds Parse against the chapter's own words: what it answers of the
// place.
func holds(t *testing.T, m *machine, src []byte) (int, api.Errno) {
	t.Helper()
	at, why := m.verdict(src)
	if why != api.OK {
		refusedAt(t, src, at, why)
		return at, why
	}
	if _, place, e := Parse(src); e != api.OK || place != (api.Place{}) {
		t.Fatalf("P6.1: %.300q: %v %v, want OK", src, place, e)
	}
	return at, why
}

// TestTreesAtRandom: P6.1, P6.3: texts that were written for a tree are read
// as it.
func TestTreesAtRandom(t *testing.T) {
	t.Parallel()
	r := rand.New(rand.NewSource(6))
	for range 3000 {
		src, want := write(r, false)
		was := bytes.Clone(src)
		tree, place, why := Parse(src)
		if why != api.OK || place != (api.Place{}) || !like(tree, want) {
			t.Fatalf("P6.3: %s\n%+v %v %v, want\n%+v", src, tree, place, why, want)
		}
		if !bytes.Equal(src, was) {
			t.Fatalf("R2: %q was changed", was)
		}
	}
}

// spoilt makes a text that is most often none, out of one that is.
func spoilt(r *rand.Rand, src []byte) []byte {
	src = bytes.Clone(src)
	pieces := append(strings.Fields(`{ } [ ] ( ) ; , .. = == != < <= > >= | ^ & << >> + - * / % . ! 0 1K 0x 12a "t" "\x "\q" a q9 # @ \ `+strings.Join(reserved, " ")), " ", "\n", "\x00", "\xff")
	for range 1 + r.Intn(3) {
		at := r.Intn(len(src) + 1)
		end := min(len(src), at+r.Intn(4))
		piece := ""
		switch r.Intn(6) {
		case 0: // a byte, or a few, taken out
		case 1:
			piece, end = pieces[r.Intn(len(pieces))], at
		case 2:
			piece = pieces[r.Intn(len(pieces))]
		case 3:
			piece, end = " "+pieces[r.Intn(len(pieces))]+" ", at
		case 4: // it ends here
			end = len(src)
		case 5:
			piece = string(src[at:end]) + string(src[at:end])
		}
		src = append(append(bytes.Clone(src[:at]), piece...), src[end:]...)
	}
	return src
}

// TestSpoiltAtRandom: P6.1; of those that are refused P6.5.
func TestSpoiltAtRandom(t *testing.T) {
	t.Parallel()
	r := rand.New(rand.NewSource(66))
	m := newMachine()
	count := map[api.Errno]int{}
	for range 6000 {
		src, _ := write(r, true)
		src = spoilt(r, src)
		at, why := holds(t, m, src)
		count[why]++
		if why == api.OK || at == len(src) {
			continue
		}
		tail, _ := write(r, true)
		refusedAt(t, append(bytes.Clone(src[:at+1]), tail[r.Intn(len(tail)):]...), at, why)
	}
	if count[api.OK] < 300 || count[api.ErrSyntax] < 3000 {
		t.Errorf("%v: too few to tell", count)
	}
}

// TestEveryPlace: P6.1: at every place of the grammar every lexeme is taken or
// refused as it says.
func TestEveryPlace(t *testing.T) {
	t.Parallel()
	m := newMachine()
	lexemes := append(strings.Fields(`{ } [ ] ( ) ; , .. = == != < <= > >= | ^ & << >> + - * / % . ! 0 0x 0x1 "t" "t a ina systemsystemsystemsystemsystemsystem 18446744073709551616 @`), reserved...)
	seen := map[string]bool{}
	for _, text := range everything {
		for _, x := range tokens(t, []byte(text)) {
			src := []byte(text[:x.At])
			state := fmt.Sprint(m.goes(src, tokens(t, src)))
			if seen[state] {
				continue // the grammar can't tell this place from one ahead
			}
			seen[state] = true
			for _, s := range lexemes {
				holds(t, m, append(bytes.Clone(src), s...))
				holds(t, m, append(append(bytes.Clone(src), s...), " ;"...))
			}
		}
	}
	if len(seen) < 100 {
		t.Errorf("%d places: too few to tell", len(seen))
	}
}

// TestEveryByte: P6.1: behind every beginning any byte.
func TestEveryByte(t *testing.T) {
	t.Parallel()
	m := newMachine()
	for _, text := range everything {
		if _, why := holds(t, m, []byte(text)); why != api.OK {
			t.Fatalf("%q: %v", text, why)
		}
		for at := range len(text) {
			holds(t, m, []byte(text[:at]))
			for _, b := range []byte("aeirstx0K \n#\"\\.=!<>{}[]();,@\x80") {
				holds(t, m, append([]byte(text[:at]), b))
			}
		}
	}
}

func tokens(t *testing.T, src []byte) []api.Token {
	t.Helper()
	list, _, why := scan.Tokens(src)
	if why != api.OK {
		t.Fatalf("%q: %v", src, why)
	}
	return list
}

// TestLexemesAlone: P6.4: a text and its lexemes with one space between are
// read alike, but for offsets.
func TestLexemesAlone(t *testing.T) {
	t.Parallel()
	r := rand.New(rand.NewSource(64))
	for range 500 {
		src, want := write(r, false)
		var spaced []byte
		for _, x := range tokens(t, src) {
			spaced = append(append(spaced, src[x.At:x.End]...), ' ')
		}
		tree, _, why := Parse(spaced)
		if why != api.OK || !like(unplaced(tree), unplaced(want)) {
			t.Fatalf("P6.4: %q: %+v %v, want %+v", spaced, tree, why, want)
		}
	}
}

// unplaced tells a tree without its offsets.
func unplaced(t api.Tree) api.Tree {
	ref := func(r api.Ref) api.Ref { return api.Ref{Word: r.Word, Index: r.Index} }
	out := api.Tree{Name: ref(t.Name), Top: t.Top}
	for _, x := range t.Items {
		x.Pos, x.Name, x.From, x.To, x.Over = 0, ref(x.Name), ref(x.From), ref(x.To), ref(x.Over)
		var params []api.Ref
		for _, p := range x.Params {
			params = append(params, ref(p))
		}
		x.Params = params
		out.Items = append(out.Items, x)
	}
	for _, n := range t.Nodes {
		n.At = 0
		out.Nodes = append(out.Nodes, n)
	}
	return out
}

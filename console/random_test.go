package console

import (
	"bytes"
	"math/rand"
	"slices"
	"strconv"
	"strings"
	"testing"

	"bulkhead/api"
)

// one is one of a list.
func one[T any](r *rand.Rand, list []T) T { return list[r.Intn(len(list))] }

// someNumber is a word that is a number, near an edge as often as not.
func someNumber(r *rand.Rand) string {
	edges := []uint64{0, 1, 2, 4, 8, 10, 63, 64, 255, 4096, 1<<31 - 1, 1 << 31, 1 << 39, 1<<63 - 1, 1 << 63, 1<<64 - 1}
	n := one(r, edges)
	if r.Intn(2) == 0 {
		n = r.Uint64() >> r.Intn(64)
	}
	return one(r, spelt(n))
}

// someName is a name of one of a policy's lists, most often of the right one.
func someName(r *rand.Rand, p api.Policy, of string) string {
	if r.Intn(20) == 0 {
		of = one(r, []string{"SUBJECT", "DEVICE", "CHANNEL", "IRQ", "PLAN"})
	}
	if list := modelNames(p, of); len(list) > 0 {
		return one(r, list)
	}
	return "none"
}

// someLine is a line that is a step more often than not.
func someLine(r *rand.Rand, p api.Policy) string {
	var words []string
	for _, field := range strings.Fields(one(r, shapes).words) {
		switch field {
		case "AT", "VALUE":
			field = someNumber(r)
		case "WIDTH":
			if field = strconv.Itoa(1 << r.Intn(4)); r.Intn(4) == 0 {
				field = someNumber(r)
			}
		case "SUBJECT", "DEVICE", "CHANNEL", "IRQ", "PLAN":
			field = someName(r, p, field)
		}
		words = append(words, field)
	}
	if r.Intn(25) == 0 {
		n := r.Intn(len(words))
		switch r.Intn(4) {
		case 0:
			words = slices.Delete(words, n, n+1)
		case 1:
			words = slices.Insert(words, n, one(r, words))
		case 2:
			words[n] = one(r, append(noNumbers(), "load", "store", "fetch", "do", "wait", "dma"))
		case 3:
			m := r.Intn(len(words))
			words[n], words[m] = words[m], words[n]
		}
	}
	between := one(r, []string{" ", " ", " ", "  ", "\t", "\r", " \t\r "})
	return one(r, []string{"", "", " ", "\t"}) + strings.Join(words, between) + one(r, []string{"", "", "", "\r", " ", "# x", " # tick 1", "#"})
}

func someText(r *rand.Rand, p api.Policy) []byte {
	var lines []string
	for range r.Intn(8) {
		lines = append(lines, one(r, []string{someLine(r, p), someLine(r, p), someLine(r, p), "", "# remark", " "}))
	}
	return []byte(strings.Join(lines, "\n") + one(r, []string{"", "\n", "\n\n"}))
}

// bent is a text with a few bytes changed.
func bent(r *rand.Rand, text []byte) []byte {
	text = bytes.Clone(text)
	for range r.Intn(4) {
		at := r.Intn(len(text) + 1)
		some := []byte("\n\n #\t\r0x1aA.-_\v\x00\xff")
		switch {
		case r.Intn(2) == 0:
			text = slices.Insert(text, at, one(r, some))
		case at < len(text) && r.Intn(2) == 0:
			text[at] = one(r, some)
		case at < len(text):
			text = slices.Delete(text, at, at+1)
		}
	}
	return text
}

// holdModel holds Parse against the model, and Print of what was read.
func holdModel(t *testing.T, p api.Policy, text []byte) bool {
	t.Helper()
	script, line, why := Parse(p, text)
	want, at, because := modelParse(p, text)
	if !slices.Equal(script, want) || line != at || why != because {
		t.Fatalf("P19.1: %q: %+v, %d, %v, want %+v, %d, %v", text, script, line, why, want, at, because)
	}
	if why != api.OK {
		return false
	}
	out, why := Print(p, script)
	if why != api.OK {
		t.Fatalf("P19.2: %q was read, and is not printed: %v", text, why)
	}
	if again, _, why := modelParse(p, out); why != api.OK || !slices.Equal(again, script) {
		t.Fatalf("P19.5: %q is printed as %q: %v", text, out, why)
	}
	return true
}

func TestRandomTexts(t *testing.T) {
	r := rand.New(rand.NewSource(19))
	policies := []api.Policy{people(), family(t, 1), family(t, 5), {}}
	taken, refused := 0, 0
	for range 40000 {
		p := one(r, policies)
		text := someText(r, p)
		if r.Intn(3) == 0 {
			text = bent(r, text)
		}
		if holdModel(t, p, text) {
			taken++
		} else {
			refused++
		}
	}
	if taken < 5000 || refused < 5000 {
		t.Errorf("%d taken, %d refused", taken, refused)
	}
}

// Any bytes end.
func TestRandomBytes(t *testing.T) {
	r := rand.New(rand.NewSource(191))
	for range 20000 {
		text := make([]byte, r.Intn(60))
		for n := range text {
			text[n] = byte(r.Intn(256))
			if r.Intn(2) == 0 {
				text[n] = one(r, []byte("tick 12\n#\n \tdoa"))
			}
		}
		holdModel(t, people(), text)
	}
}

func someInt(r *rand.Rand) int {
	return one(r, []int{0, 0, 0, 1, 1, 2, 3, 4, 5, 8, -1, 1<<31 - 1, 1 << 31, -1 << 63, 1<<63 - 1, r.Int()})
}

func someStep(r *rand.Rand) api.Step {
	s := api.Step{Kind: r.Intn(14), Subject: someInt(r), Number: someInt(r), Access: r.Intn(5), At: r.Uint64() >> r.Intn(64), Width: someInt(r), Value: r.Uint64() >> r.Intn(64)}
	if r.Intn(4) > 0 {
		s = told(s)
	}
	return s
}

// Any script is printed as lines that are read as it, or refused because no lines
// are.
func TestRandomScripts(t *testing.T) {
	r := rand.New(rand.NewSource(192))
	p := people()
	printed, refused := 0, 0
	for range 60000 {
		var script []api.Step
		all := true
		for range 1 + r.Intn(3) {
			s := someStep(r)
			script, all = append(script, s), all && tellable(p, s)
		}
		out, why := Print(p, script)
		switch {
		case !all:
			refused++
			if why != api.ErrForm || len(out) != 0 {
				t.Fatalf("P19.2: %+v: %q, %v", script, out, why)
			}
		default:
			printed++
			again, _, because := modelParse(p, out)
			if why != api.OK || because != api.OK || !slices.Equal(again, script) || bytes.Count(out, []byte("\n")) != len(script) {
				t.Fatalf("P19.5: %+v: %q, %v", script, out, why)
			}
		}
	}
	if printed < 5000 || refused < 5000 {
		t.Errorf("%d printed, %d refused", printed, refused)
	}
}

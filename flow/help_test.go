package flow

import (
	"regexp"
	"slices"
	"testing"

	"bulkhead/api"
	"bulkhead/bus"
	"bulkhead/forge"
	"bulkhead/kernel"
)

// policy is what a text means.
func policy(t testing.TB, src string) api.Policy {
	t.Helper()
	p, err := forge.Read([]byte(src))
	if err != nil {
		t.Fatalf("%q: %v", src, err)
	}
	return p
}

// facts are those of a policy that can be built.
func facts(t testing.TB, p api.Policy) api.Facts {
	t.Helper()
	f, why := Facts(p)
	if why != api.OK {
		t.Fatalf("P17.1: %v", why)
	}
	return f
}

// edges are pairs of numbers.
func edges(ends ...int) []api.Edge {
	var out []api.Edge
	for n := 0; n < len(ends); n += 2 {
		out = append(out, api.Edge{From: ends[n], To: ends[n+1]})
	}
	return out
}

// booted is a kernel of a policy, on a new machine.
func booted(t testing.TB, p api.Policy) *kernel.Kernel {
	t.Helper()
	b, _, why := forge.Emit(p)
	if why != api.OK {
		t.Fatal(why)
	}
	m, why := bus.New(forge.Bus(p))
	if why != api.OK {
		t.Fatal(why)
	}
	k, err := kernel.Boot(m, b.Image)
	if err != nil {
		t.Fatal(err)
	}
	return k
}

// answers are what a subject's steps answer, on a new machine.
func answers(t testing.TB, p api.Policy, script []api.Step, who int) []api.Result {
	t.Helper()
	var out []api.Result
	for n, r := range booted(t, p).Run(script) {
		if owner(p, script[n]) == who {
			out = append(out, r)
		}
	}
	return out
}

// holdWitness holds two scripts to be what P17.6 asks of a witness.
func holdWitness(t testing.TB, what string, p api.Policy, u, s int, a, b []api.Step) {
	t.Helper()
	others := func(script []api.Step) []api.Step {
		return slices.DeleteFunc(slices.Clone(script), func(x api.Step) bool { return owner(p, x) == u })
	}
	if len(a) > 64 || len(b) > 64 || !slices.Equal(others(a), others(b)) {
		t.Errorf("P17.6: %s: %d, %d: %v and %v", what, u, s, a, b)
	}
	hears, other := answers(t, p, a, s), answers(t, p, b, s)
	if len(hears) != len(other) || slices.Equal(hears, other) {
		t.Errorf("P17.6, W3: %s: %d is not heard by %d: %v of %v, %v of %v", what, u, s, hears, a, other, b)
	}
}

// lone is a policy of two subjects, a and b, and two devices, disk and clock,
// that have nothing to do with one another, with parts written into it.
func lone(parts map[string]string) string {
	text := `system x {
		ram 0 size 8M;
		device disk at 0xf0000000 size 4K dma { map own at 0x5000 write; @disk }
		device clock at 0xf0010000 size 8K;
		region own size 4K;
		region r size 4K;
		region text size 4K fill "text";
		region empty size 4K fill "";
		region full size 8K fill 255;
		region large size 2M big;
		subject a cpu 0 @astop { @a }
		subject b cpu @bcpu @bstop { @b }
		plan p major 10 { cpu 0 { idle 1; @aruns @bruns } @lane }
		@more
		start @start ;
	}`
	usual := map[string]string{"aruns": "run a 2;", "bruns": "run b 3;", "bcpu": "0", "start": "p"}
	for _, name := range []string{"disk", "astop", "a", "bcpu", "bstop", "b", "aruns", "bruns", "lane", "more", "start"} {
		part, ok := parts[name]
		if !ok {
			part = usual[name]
		}
		text = regexp.MustCompile("@"+name+`\b`).ReplaceAllLiteralString(text, part)
	}
	return text
}

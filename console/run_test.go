package console

import (
	"bytes"
	"errors"
	"fmt"
	"math/rand"
	"slices"
	"strings"
	"testing"

	"bulkhead/api"
	"bulkhead/boot"
	"bulkhead/bus"
	"bulkhead/forge"
	"bulkhead/kernel"
)

// small is a policy with all effects and rules that Family doesn't have; s stops
// on a fault, z begins anew, and m is the master.
const small = `system small {
  ram 0x200000 size 1M; ram 0x400000 size 64K;
  device d at 0x80000000 size 4K dma { map r at 0x1000 write; map t at 0x9000; }
  device e at 0x80001000 size 4K;
  region r size 8K fill 7; region t size 4K fill "text";
  subject m cpu 0 { map r at 0 write; map t at 0x8000; map d at 0x10000 write; }
  subject s cpu 1 { map t at 0x1000 exec; fault stop; }
  subject z[3] cpu 2 stopped { map r at 0x4000 write; fault reset; }
  channel stops from m to s stop; channel starts from m to z[3] start;
  channel resets from m to z[3] reset; channel tells from s to m vector 3;
  irq i from d to m vector 1; irq j from e to s vector 2 masked;
  plan p major 10 { cpu 0 { run m 6; } cpu 1 { run s 10; } cpu 2 { run z[3] 10; } }
  plan q major 3 { cpu 0 { idle 1; run m 1; } cpu 2 { run z[3] 3; } }
  master m; start p;
}
`

// holdRun holds what Run answers of a policy and a script.
func holdRun(t *testing.T, policy, script string, want ...string) {
	t.Helper()
	out := string(Run([]byte(policy), []byte(script)))
	if out != string(text(want...)) {
		t.Errorf("P19.4: %.80q, %.200q:\n%swant\n%s", policy, script, out, text(want...))
	}
}

// built is the first line of a policy that is taken.
func built(t testing.TB, policy string) string {
	t.Helper()
	b, err := forge.Compile([]byte(policy))
	if err != nil {
		t.Fatal(err)
	}
	return fmt.Sprintf("built %d pages at %#x", len(b.Image)/4096, b.Layout.Image)
}

func TestChapterRuns(t *testing.T) {
	policy := string(forge.Family(2))
	first := built(t, policy)
	for _, c := range []struct{ script, want string }{
		{"do s.0 fetch 0x1000 1", "ok 0x73"},
		{"tick 10\ndo s.0 wait", "ok|refused 161"},
		{"do s.1 load 0x5000 4", "fault 41 at 0x5000"},
		{"do s.2 wait", "script refused 190 at 1"},
		{"do s.0 status", "ok plan 0 left 10 clock 0"},
		{"# nothing", ""},
		{"", ""},
		{"do s.0 store 0x10ffc 8 0x1122334455667788\ndo s.0 load 0x10fff 2", "ok|ok 0x4455"},
		{"do s.1 load 0x5000 1\ndo s.0 poll 1\ndo s.0 poll 1", "fault 41 at 0x5000|ok 0x1|ok 0x0"},
		{"do s.0 switch night\ntick 640\ndo s.0 status", "ok|ok|ok plan 1 left 50 clock 640"},
		{"do s.0 fetch 18446744073709551615 4", "fault 40 at 0xffffffffffffffff"},
		{"do s.0 store 0x20000 1 1\ndo s.0 fetch 0x10000 1", "fault 43 at 0x20000|fault 44 at 0x10000"},
		{"do s.0 load 0x10000 3\ndo s.0 poll 64\ndo s.1 switch night", "refused 31|refused 101|refused 106"},
		{"do s.1 wait\ndo s.1 wait\ndo s.1 poll 0", "ok 0x0|refused 163|refused 163"},
		{"irq rx\nirq rx\ndo s.0 poll 62\ndo s.0 unmask rx\ndo s.0 wait", "ok|ok|ok 0x1|ok|ok 0x4000000000000000"},
		{"do s.0 signal c.1\ndo s.1 signal c.1\ndo s.0 poll 63", "refused 164|ok|ok 0x1"},
		{"tick 18446744073709551615\ntick 2\ntick 384\ndo s.0 status", "ok|ok|ok|ok plan 0 left 9 clock 385"},
		{"write uart 4095 2 1\nwrite uart 4095 1 0xfff\ndo s.0 load 0x40000fff 1", "refused 168|ok|ok 0xff"},
		{"dma uart load 0 1\ndma disk store 0x4000 1 1\ndma disk load 0x3fff 1", "fault 41 at 0x0|fault 41 at 0x4000|ok 0x0"},
	} {
		want := []string{first}
		if c.want != "" {
			want = append(want, strings.Split(c.want, "|")...)
		}
		holdRun(t, policy, c.script, want...)
		holdRun(t, policy, c.script+"\n", want...)
	}
	holdRun(t, string(forge.Family(1)), "", built(t, string(forge.Family(1))))
	holdRun(t, "system a { ram 0 size 64K; plan p major 1 { } start p; }", "tick 1", "built 1 pages at 0x0", "ok")
	holdRun(t, "system a { ram 0 size 8K; region r size 4K; plan p major 1 { } start p; }", "", "built 1 pages at 0x1000")
}

func TestEffects(t *testing.T) {
	holdRun(t, small, `
do z.3 wait            # it is stopped
do m store 0x1000 2 0x1234
do m signal starts
do z.3 load 0x5000 4
do z.3 store 0x5000 1 9
do z.3 fetch 0x5000 1  # its rule makes r new
do m load 0x1000 2
do s store 0x1000 1 0  # its rule stops it
do s status
irq j
irq i
do m wait
dma d store 0x1000 8 0xabc
dma d load 0x1001 1
do m signal stops
do m signal tells
do m switch q
tick 10
do m wait
tick 1
do m status
do z.3 status
`, built(t, small),
		"refused 162", "ok", "ok", "ok 0x7071234", "ok", "fault 44 at 0x5000", "ok 0x707", "fault 43 at 0x1000", "refused 162",
		"ok", "ok", "ok 0x2", "ok", "ok 0xa", "ok", "refused 164", "ok", "ok", "refused 161", "ok", "ok plan 1 left 1 clock 11", "ok plan 1 left 2 clock 11")
}

func TestPoliciesThatAreRefused(t *testing.T) {
	for _, c := range []struct{ policy, want string }{
		{"system", "class 2 refused 60 at 1:7"},
		{"", "class 2 refused 60 at 1:1"},
		{"system a {\n  ram 0 size 64K\n}", "class 2 refused 60 at 3:1"},
		{"system a { region r size " + strings.Repeat("(", 33) + "; }", "class 2 refused 61 at 1:57"},
		{strings.Repeat("#", api.MaxText+1), "class 1 refused 3 at 1:1"},
		{strings.Repeat("\n", api.MaxText+1), "class 1 refused 3 at 1:1"},
		{"system a { region r size 4K; region r size 8K; }", "class 3 refused 81 at 1:30"},
		{"system a {\n ram 0 size 64K;\n plan p major 1 { }\n  start q; }", "class 3 refused 80 at 4:3"},
		{"system a { ram 0 size 64K; plan p major 0 { } start p; }", "class 3 refused 92 at 1:28"},
		{"system a { plan p major 1 { } start p; }", "class 4 refused 110 at 1:1"},
		{"\n\n  system a { plan p major 1 { } start p; }", "class 4 refused 110 at 3:3"},
		{"system a { ram 0 size 4K; region r size 4K; plan p major 1 { } start p; }", "class 4 refused 110 at 1:1"},
		{"system a { ram 0 size 8K;\nregion r size 4K; region t size 8K; plan p major 1 { } start p; }", "class 4 refused 110 at 2:19"},
	} {
		// Nothing of a script is told, be it one or not.
		for _, script := range []string{"", "tick 1", "x", strings.Repeat("x", api.MaxText+1)} {
			holdRun(t, c.policy, script, c.want)
		}
	}
}

func TestScriptsThatAreRefused(t *testing.T) {
	policy := string(forge.Family(3))
	first := built(t, policy)
	for _, c := range []struct{ script, want string }{
		{"x", "script refused 190 at 1"},
		{"tick 1\ndo s.0 wait\n\n# no\nirq tx\ntick 1\n", "script refused 190 at 5"},
		{"do s.3 wait", "script refused 190 at 1"},
		{strings.Repeat("\n", 999) + "tick", "script refused 190 at 1000"},
		{strings.Repeat("#", api.MaxText+1), "script refused 3 at 0"},
		{"tick 1\n" + strings.Repeat("x", api.MaxText), "script refused 3 at 0"},
	} {
		holdRun(t, policy, c.script, first, c.want)
	}
	holdRun(t, policy, strings.Repeat("#", api.MaxText), first)
}

// alone is Run, made of the calls of the layers below, and the models of this
// one's.
func alone(t *testing.T, policy, script []byte) string {
	t.Helper()
	b, err := forge.Compile(policy)
	var r *forge.Refusal
	if errors.As(err, &r) {
		return fmt.Sprintf("class %d refused %d at %d:%d\n", r.Class, int(r.Why), r.Place.Line, r.Place.Column)
	}
	out := fmt.Sprintf("built %d pages at %#x\n", b.Layout.Pages, b.Layout.Image)
	steps, line, why := modelParse(b.Policy, script)
	if why != api.OK {
		return out + fmt.Sprintf("script refused %d at %d\n", int(why), line)
	}
	m, _ := bus.New(forge.Bus(b.Policy))
	if _, err := boot.Check(m.Bus(), b.Image); err != nil {
		t.Fatalf("W6: %v", err)
	}
	k, _ := kernel.Boot(m, b.Image)
	for _, s := range steps {
		out += says(s, k.Step(s)) + "\n"
	}
	return out
}

// W9: console is forge, boot and kernel, one behind the other. P19.6: the two texts
// say it all, whatever was run ahead of them.
func TestRandomRuns(t *testing.T) {
	r := rand.New(rand.NewSource(193))
	policies := []string{small, string(forge.Family(1)), string(forge.Family(2)), string(forge.Family(9)), "system", "system a { ram 0 size 64K; plan p major 1 { } start p; }"}
	seen := map[string]int{}
	for range 600 {
		policy := []byte(one(r, policies))
		p, _ := forge.Read(policy)
		script := bytes.Join([][]byte{someActions(r, p), someText(r, p)}, []byte("\n"))
		if r.Intn(3) > 0 {
			script = someActions(r, p)
		}
		first := string(Run(policy, script))
		if want := alone(t, policy, script); first != want {
			t.Fatalf("P19.4: %.60q, %q:\n%swant\n%s", policy, script, first, want)
		}
		Run([]byte(one(r, policies)), someText(r, p))
		if again := string(Run(bytes.Clone(policy), bytes.Clone(script))); again != first {
			t.Fatalf("P19.6: %.60q, %q:\n%sthen\n%s", policy, script, first, again)
		}
		for line := range strings.Lines(first) {
			seen[strings.Fields(line)[0]]++
		}
	}
	for _, word := range []string{"class", "built", "script", "ok", "fault", "refused"} {
		if seen[word] < 50 {
			t.Errorf("%d lines begin with %s", seen[word], word)
		}
	}
}

// someActions is a script whose steps are likely to be done.
func someActions(r *rand.Rand, p api.Policy) []byte {
	places := []string{"0x0", "0x1000", "0x4000", "0x8000", "0x10000", "0x10ffe", "0x11ffc", "0x20000", "0x40000000"}
	var lines []string
	for range r.Intn(30) {
		line := one(r, shapes).words
		for _, of := range []string{"SUBJECT", "DEVICE", "CHANNEL", "IRQ", "PLAN"} {
			if list := modelNames(p, of); len(list) > 0 {
				line = strings.ReplaceAll(line, of, one(r, list))
			}
		}
		line = strings.ReplaceAll(line, "AT", one(r, places))
		line = strings.ReplaceAll(line, "WIDTH", one(r, []string{"1", "2", "4", "8"}))
		line = strings.ReplaceAll(line, "VALUE", one(r, []string{"1", "3", "62", "63", "640"}))
		if slices.ContainsFunc(strings.Fields(line), func(w string) bool { return w == strings.ToUpper(w) && w[0] >= 'A' && w[0] <= 'Z' }) {
			continue
		}
		lines = append(lines, line)
	}
	return text(lines...)
}

func TestRunTouchesNothing(t *testing.T) {
	policy := append(forge.Family(1), "spare room"...)
	script := []byte("tick 1\ntick 2\n")
	wasPolicy, wasScript := bytes.Clone(policy), bytes.Clone(script)
	end := len(policy) - len("spare room")
	first := Run(policy[:end], script[:7])
	want := string(first)
	clear(first)
	_ = append(first, "tail"...)
	if again := string(Run(policy[:end], script[:7])); again != want || strings.Count(want, "\n") != 2 {
		t.Errorf("R2: %q, then %q", want, again)
	}
	if !bytes.Equal(policy, wasPolicy) || !bytes.Equal(script, wasScript) {
		t.Error("R2: what was handed in is changed")
	}
	if out := string(Run(nil, nil)); out != "class 2 refused 60 at 1:1\n" {
		t.Errorf("R1: nothing: %q", out)
	}
}

// A script as long as can be.
func TestLongRun(t *testing.T) {
	const line, last = "tick 1\n", "do s.0 poll 0"
	n := (api.MaxText - len(last)) / len(line)
	n -= n % 640 // s.0 has its turn again
	policy := string(forge.Family(1))
	want := built(t, policy) + "\n" + strings.Repeat("ok\n", n) + "ok 0x0\n"
	if out := string(Run([]byte(policy), []byte(strings.Repeat(line, n)+last))); out != want {
		t.Errorf("P19.4: %d lines of %d steps, the last %q", strings.Count(out, "\n"), n+1, out[len(out)-20:])
	}
}

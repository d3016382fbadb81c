package unfold

import (
	"fmt"
	"math/rand"
	"reflect"
	"regexp"
	"strings"
	"testing"

	"bulkhead/api"
	"bulkhead/scan"
)

// whole is a policy with every kind of thing that can be written.
func whole() api.Policy {
	return api.Policy{
		Pos:  3,
		Name: "s",
		Rams: []api.Ram{{Pos: 1, At: 1, Size: 2}, {At: 1<<64 - 1}},
		Devices: []api.Device{
			{Pos: 5, Name: "d", At: 3, Size: 4, Maps: []api.Map{{Pos: 9, Of: "r.0", At: 5, Write: true}, {Of: "q", Exec: true}}},
			{Name: "e.1", At: 6, Size: 7},
		},
		Regions: []api.Region{
			{Name: "r.0", Size: 8, Fixed: true, At: 9, Big: true, Wx: true, Texted: true, Text: "a\n\x00\"\\ \xff"},
			{Name: "q", Size: 10, Fill: 11},
			{Name: "o", Size: 12, Fixed: true, Fill: 1},
			{Name: "n", Texted: true},
			{Name: "m.18446744073709551615.0"},
		},
		Subjects: []api.Subject{
			{Name: "a", CPU: 1, Stopped: true, Maps: []api.Map{{Of: "r.0", At: 12, Write: true, Exec: true}, {Of: "e.1"}}, Rules: []api.Rule{{How: api.ByVector, To: "b", Vector: 14}, {How: api.ByReset}, {How: api.ByStop}}},
			{Name: "b"},
			{Name: "c", Rules: []api.Rule{{How: api.ByVector, To: "c.0"}}},
		},
		Channels: []api.Channel{
			{Name: "c", From: "a", To: "b", Shared: true, Over: "q.2", How: api.ByVector, Vector: 15},
			{Name: "k.1", From: "b.2", To: "a.3", How: api.ByReset},
			{Name: "k", From: "b", To: "a", Shared: true, Over: "q", How: api.ByStop},
			{Name: "k", From: "b", To: "a", How: api.ByStart},
			{Name: "k", From: "b", To: "a", How: api.ByVector},
		},
		Irqs: []api.IrqLine{{Name: "i.1", From: "d.2", To: "a.3", Vector: 16, Masked: true}, {Name: "j", From: "d", To: "b"}},
		Plans: []api.Plan{
			{Name: "p", Major: 17, Lanes: []api.Lane{
				{CPU: 2, Runs: []api.Run{{Subject: "a.4", Budget: 18}, {Budget: 19}, {}}},
				{CPU: 1, Needs: true, Runs: []api.Run{{Subject: "b", Budget: 20, Period: 21}, {Subject: "b"}}},
				{}, {Needs: true},
			}},
			{Name: "q"},
		},
		Masters: []api.Pick{{Name: "a"}, {Name: "b.1"}},
		Starts:  []api.Pick{{Name: "p"}, {Name: "q.0"}},
	}
}

// TestWriteWhole: P8.4: the text, line by line.
func TestWriteWhole(t *testing.T) {
	t.Parallel()
	const want = `system s {
  ram 1 size 2;
  ram 18446744073709551615 size 0;
  device d at 3 size 4 dma {
    map r[0] at 5 write;
    map q at 0 exec;
  }
  device e[1] at 6 size 7;
  region r[0] size 8 at 9 big wx fill "a\n\x00\"\\ \xff";
  region q size 10 fill 11;
  region o size 12 at 0 fill 1;
  region n size 0 fill "";
  region m[18446744073709551615][0] size 0;
  subject a cpu 1 stopped {
    map r[0] at 12 write exec;
    map e[1] at 0;
    fault tell b vector 14;
    fault reset;
    fault stop;
  }
  subject b cpu 0 {
  }
  subject c cpu 0 {
    fault tell c[0] vector 0;
  }
  channel c from a to b over q[2] vector 15;
  channel k[1] from b[2] to a[3] reset;
  channel k from b to a over q stop;
  channel k from b to a start;
  channel k from b to a vector 0;
  irq i[1] from d[2] to a[3] vector 16 masked;
  irq j from d to b vector 0;
  plan p major 17 {
    cpu 2 {
      run a[4] 18;
      idle 19;
      idle 0;
    }
    cpu 1 needs {
      need b 20 every 21;
      need b 0 every 0;
    }
    cpu 0 {
    }
    cpu 0 needs {
    }
  }
  plan q major 0 {
  }
  master a;
  master b[1];
  start p;
  start q[0];
}
`
	got, why := Write(whole())
	if why != api.OK || string(got) != want {
		t.Errorf("P8.4: %v\n%s", why, got)
	}
	if got, why := Write(api.Policy{Name: "s"}); why != api.OK || string(got) != "system s {\n}\n" {
		t.Errorf("P8.4: %v\n%s", why, got)
	}
	if got, why := Write(api.Policy{}); why != api.ErrForm || len(got) != 0 {
		t.Errorf("P8.4: %v\n%s", why, got)
	}
}

// scribe writes a policy with the chapter's words alone, told line by line.
type scribe struct {
	strings.Builder
	wrong bool
}

func (s *scribe) line(depth int, words ...any) {
	var row []string
	for _, word := range words {
		if text := fmt.Sprint(word); text != "" {
			row = append(row, text)
		}
	}
	text := strings.Join(row, " ")
	if short, ok := strings.CutSuffix(text, " ;"); ok {
		text = short + ";"
	}
	s.WriteString(strings.Repeat("  ", depth) + text + "\n")
}

var flatName = regexp.MustCompile(`^([a-zA-Z_][a-zA-Z0-9_]{0,31})((\.(0|[1-9][0-9]*))*)$`)

func (s *scribe) name(flat string) string {
	parts := flatName.FindStringSubmatch(flat)
	if parts == nil || len(flat) > 64 || scan.Reserved(parts[1]) != 0 {
		s.wrong = true
		return "?"
	}
	out := parts[1]
	for _, number := range strings.Split(parts[2], ".")[1:] {
		if len(number) > 20 || len(number) == 20 && number > "18446744073709551615" {
			s.wrong = true
		}
		out += "[" + number + "]"
	}
	return out
}

func word(set bool, text string) string {
	if set {
		return text
	}
	return ""
}

func (s *scribe) maps(list []api.Map) {
	for _, m := range list {
		s.line(2, "map", s.name(m.Of), "at", m.At, word(m.Write, "write"), word(m.Exec, "exec"), ";")
	}
}

func (s *scribe) effect(how int, most int, vector uint64, tell string) string {
	switch {
	case how == api.ByVector:
		return tell + "vector " + fmt.Sprint(vector)
	case vector != 0 || how < api.ByReset || how > most:
		s.wrong = true
	}
	return map[int]string{api.ByReset: "reset", api.ByStop: "stop", api.ByStart: "start"}[how]
}

func (s *scribe) region(r api.Region) {
	fill := word(r.Fill != 0, fmt.Sprint("fill ", r.Fill))
	if r.Texted {
		fill = "fill " + string(scan.Quote(r.Text))
	}
	if !r.Fixed && r.At != 0 || !r.Texted && r.Text != "" || r.Texted && r.Fill != 0 {
		s.wrong = true
	}
	s.line(1, "region", s.name(r.Name), "size", r.Size, word(r.Fixed, fmt.Sprint("at ", r.At)), word(r.Big, "big"), word(r.Wx, "wx"), fill, ";")
}

func (s *scribe) subject(u api.Subject) {
	s.line(1, "subject", s.name(u.Name), "cpu", u.CPU, word(u.Stopped, "stopped"), "{")
	s.maps(u.Maps)
	for _, r := range u.Rules {
		tell := ""
		if r.How == api.ByVector {
			tell = "tell " + s.name(r.To) + " "
		} else if r.To != "" {
			s.wrong = true
		}
		s.line(2, "fault", s.effect(r.How, api.ByStop, r.Vector, tell), ";")
	}
	s.line(1, "}")
}

func (s *scribe) plan(p api.Plan) {
	s.line(1, "plan", s.name(p.Name), "major", p.Major, "{")
	for _, l := range p.Lanes {
		s.line(2, "cpu", l.CPU, word(l.Needs, "needs"), "{")
		for _, r := range l.Runs {
			switch {
			case l.Needs:
				s.line(3, "need", s.name(r.Subject), r.Budget, "every", r.Period, ";")
			case r.Subject == "":
				s.line(3, "idle", r.Budget, ";")
			default:
				s.line(3, "run", s.name(r.Subject), r.Budget, ";")
			}
			s.wrong = s.wrong || !l.Needs && r.Period != 0
		}
		s.line(2, "}")
	}
	s.line(1, "}")
}

// written tells what Write must answer.
func written(p api.Policy) (string, api.Errno) {
	s := &scribe{wrong: strings.Contains(p.Name, ".")}
	s.line(0, "system", s.name(p.Name), "{")
	for _, r := range p.Rams {
		s.line(1, "ram", r.At, "size", r.Size, ";")
	}
	for _, d := range p.Devices {
		dma := len(d.Maps) > 0
		s.line(1, "device", s.name(d.Name), "at", d.At, "size", d.Size, word(dma, "dma {"), word(!dma, ";"))
		if !dma {
			continue
		}
		s.maps(d.Maps)
		s.line(1, "}")
	}
	for _, r := range p.Regions {
		s.region(r)
	}
	for _, u := range p.Subjects {
		s.subject(u)
	}
	for _, c := range p.Channels {
		over := ""
		if c.Shared {
			over = "over " + s.name(c.Over)
		} else if c.Over != "" {
			s.wrong = true
		}
		s.line(1, "channel", s.name(c.Name), "from", s.name(c.From), "to", s.name(c.To), over, s.effect(c.How, api.ByStart, c.Vector, ""), ";")
	}
	for _, i := range p.Irqs {
		s.line(1, "irq", s.name(i.Name), "from", s.name(i.From), "to", s.name(i.To), "vector", i.Vector, word(i.Masked, "masked"), ";")
	}
	for _, plan := range p.Plans {
		s.plan(plan)
	}
	for _, m := range p.Masters {
		s.line(1, "master", s.name(m.Name), ";")
	}
	for _, m := range p.Starts {
		s.line(1, "start", s.name(m.Name), ";")
	}
	s.line(0, "}")
	if s.wrong {
		return "", api.ErrForm
	}
	return s.String(), api.OK
}

// wrote holds Write against the chapter's words; and what it wrote, read and
// unfolded again, against the policy.
func wrote(t *testing.T, what string, p api.Policy) api.Errno {
	t.Helper()
	want, wantWhy := written(p)
	got, why := Write(p)
	if why != wantWhy || string(got) != want {
		t.Errorf("P8.4: %.300q: %v, want %v:\n%s\nwant\n%s", what, why, wantWhy, got, want)
		return why
	}
	if why != api.OK {
		return why
	}
	back, at, why := Unfold(read(t, string(got)))
	if why != api.OK || unplaced(back) != unplaced(p) {
		t.Errorf("P8.5: %.300q: %v at %d:\n%s", what, why, at, got)
	}
	return api.OK
}

// leaves tells all fields of a value that are no structs and no lists, and the
// lists themselves.
func leaves(v reflect.Value) []reflect.Value {
	var out []reflect.Value
	switch v.Kind() {
	case reflect.Slice:
		out = append(out, v)
		for i := range v.Len() {
			out = append(out, leaves(v.Index(i))...)
		}
	case reflect.Struct:
		for i := range v.NumField() {
			out = append(out, leaves(v.Field(i))...)
		}
	default:
		out = append(out, v)
	}
	return out
}

// others are other values for a field.
func others(v reflect.Value) []any {
	switch v.Kind() {
	case reflect.Bool:
		return []any{true, false}
	case reflect.Int:
		return []any{-1, 0, 1, 2, 3, 4, 5, 1 << 40}
	case reflect.Uint64:
		return []any{uint64(0), uint64(1), uint64(64), uint64(1<<64 - 1)}
	case reflect.String:
		long := strings.Repeat("a", api.MaxWord)
		return []any{"", "a", "Z_9", "a.0", "a.10.0", "a.01", "a.", ".0", "a..0", "a.0.", "a.x", "9", "9.0", "system", "need.0", "a b", "a[0]", "a.18446744073709551615", "a.18446744073709551616", long, long + "a", long + ".18446744073709551615.1000000000", long + ".18446744073709551615.10000000000", "a\x00", "\xff"}
	}
	return []any{reflect.Zero(v.Type()).Interface(), reflect.AppendSlice(copied(v), copied(v)).Interface()}
}

// TestWriteEachField: P8.4: each field of a policy by itself takes other values.
func TestWriteEachField(t *testing.T) {
	t.Parallel()
	p := whole()
	wrote(t, "whole", p)
	for i, field := range leaves(reflect.ValueOf(&p).Elem()) {
		was := reflect.New(field.Type()).Elem()
		was.Set(field)
		for _, value := range others(field) {
			field.Set(reflect.ValueOf(value))
			wrote(t, fmt.Sprintf("field %d: %#v", i, value), p)
		}
		field.Set(was)
	}
	wrote(t, "whole", p)
}

// TestWriteAnything: P8.4: policies in which several fields are changed.
func TestWriteAnything(t *testing.T) {
	t.Parallel()
	r := rand.New(rand.NewSource(84))
	taken := 0
	for range 1500 {
		p := whole()
		for range 1 + r.Intn(4) {
			fields := leaves(reflect.ValueOf(&p).Elem())
			field := fields[r.Intn(len(fields))]
			values := others(field)
			if field.Kind() == reflect.String {
				values = values[:8]
			}
			field.Set(reflect.ValueOf(values[r.Intn(len(values))]))
		}
		if wrote(t, told(p), p) == api.OK {
			taken++
		}
		if t.Failed() {
			return
		}
	}
	if taken < 300 || taken > 1200 {
		t.Errorf("%d of 1500 were taken", taken)
	}
}

// TestWriteConditions: P8.4: each condition by its name.
func TestWriteConditions(t *testing.T) {
	t.Parallel()
	for what, p := range map[string]api.Policy{
		"a system's name with a number":     {Name: "s.0"},
		"a system's name of 33 bytes":       {Name: strings.Repeat("s", 33)},
		"a reserved word":                   {Name: "ram"},
		"an At without Fixed":               {Name: "s", Regions: []api.Region{{Name: "r", At: 1}}},
		"a Text without Texted":             {Name: "s", Regions: []api.Region{{Name: "r", Text: "a"}}},
		"a Fill with Texted":                {Name: "s", Regions: []api.Region{{Name: "r", Texted: true, Fill: 1}}},
		"an Over without Shared":            {Name: "s", Channels: []api.Channel{{Name: "c", From: "a", To: "b", Over: "r", How: api.ByStop}}},
		"Shared without an Over":            {Name: "s", Channels: []api.Channel{{Name: "c", From: "a", To: "b", Shared: true, How: api.ByStop}}},
		"a rule's To without ByVector":      {Name: "s", Subjects: []api.Subject{{Name: "a", Rules: []api.Rule{{How: api.ByStop, To: "b"}}}}},
		"a rule's Vector without ByVector":  {Name: "s", Subjects: []api.Subject{{Name: "a", Rules: []api.Rule{{How: api.ByReset, Vector: 1}}}}},
		"a rule with ByVector without a To": {Name: "s", Subjects: []api.Subject{{Name: "a", Rules: []api.Rule{{How: api.ByVector}}}}},
		"a rule with ByStart":               {Name: "s", Subjects: []api.Subject{{Name: "a", Rules: []api.Rule{{How: api.ByStart}}}}},
		"a rule without How":                {Name: "s", Subjects: []api.Subject{{Name: "a", Rules: []api.Rule{{}}}}},
		"a channel's Vector":                {Name: "s", Channels: []api.Channel{{Name: "c", From: "a", To: "b", How: api.ByStart, Vector: 1}}},
		"a channel without How":             {Name: "s", Channels: []api.Channel{{Name: "c", From: "a", To: "b"}}},
		"a channel with another How":        {Name: "s", Channels: []api.Channel{{Name: "c", From: "a", To: "b", How: api.ByStart + 1}}},
		"a Period of a run":                 {Name: "s", Plans: []api.Plan{{Name: "p", Lanes: []api.Lane{{Runs: []api.Run{{Subject: "a", Period: 1}}}}}}},
		"a Period of an idle":               {Name: "s", Plans: []api.Plan{{Name: "p", Lanes: []api.Lane{{Runs: []api.Run{{Period: 1}}}}}}},
		"a need without a Subject":          {Name: "s", Plans: []api.Plan{{Name: "p", Lanes: []api.Lane{{Needs: true, Runs: []api.Run{{Period: 1}}}}}}},
		"a device without a name":           {Name: "s", Devices: []api.Device{{}}},
		"a map without a name":              {Name: "s", Devices: []api.Device{{Name: "d", Maps: []api.Map{{}}}}},
		"a plan without a name":             {Name: "s", Plans: []api.Plan{{}}},
		"a master without a name":           {Name: "s", Masters: []api.Pick{{}}},
		"a start without a name":            {Name: "s", Starts: []api.Pick{{}}},
	} {
		if got, why := Write(p); why != api.ErrForm || len(got) != 0 {
			t.Errorf("P8.4: %s: %q, %v", what, got, why)
		}
	}
}

package console

import (
	"bytes"
	"reflect"
	"slices"
	"strconv"
	"strings"
	"testing"

	"bulkhead/api"
)

func TestEachLine(t *testing.T) {
	var lines []string
	var script []api.Step
	for _, x := range pairs() {
		holdScript(t, people(), x.line, x.step)
		holdScript(t, people(), x.line+"\n", x.step)
		lines, script = append(lines, x.line), append(script, x.step)
	}
	holdScript(t, people(), string(text(lines...)), script...)
}

// A line without one of its words, with one more, or with one that nothing is
// called by, is no step.
func TestEachWordCounts(t *testing.T) {
	for _, x := range pairs() {
		list := strings.Split(x.line, " ")
		for n := range list {
			less := slices.Delete(slices.Clone(list), n, n+1)
			holdWrong(t, people(), strings.Join(less, " "), 1)
			other := slices.Clone(list)
			for _, w := range []string{"nobody", strings.ToUpper(list[n]) + "X", "-1", list[n] + ".", "." + list[n], list[n] + "," + list[n]} {
				other[n] = w
				holdWrong(t, people(), strings.Join(other, " "), 1)
			}
		}
		holdWrong(t, people(), x.line+" 0", 1)
		holdWrong(t, people(), x.line+" "+list[len(list)-1], 1)
		holdWrong(t, people(), x.line+" "+x.line, 1)
	}
}

func TestLinesThatAreNoSteps(t *testing.T) {
	for _, line := range []string{
		"frobnicate", "do", "do a", "a", "a wait", "wait", "do a tick 1", "do a irq q", "tock 1", "Tick 1", "DO a wait",
		"do a Wait", "do a load", "do a load 0", "do a load 0 1 2", "do a fetch 0 1 2", "do a store 0 1", "do a write 0 1 2",
		"do a dma d load 0 1", "do a do a wait", "do a wait 0", "do a status 0", "do a signal", "do a signal 0", "do a arm 1",
		"do a arm 1 2 3", "do a poll", "do a switch", "do a switch 1", "do a unmask", "dma d", "dma d fetch 0 1", "dma d load 0",
		"dma d load 0 1 2", "dma d store 0 1", "dma d store 0 1 2 3", "dma load d 0 1", "write d 0 1", "write d 0 1 2 3",
		"write d store 0 1 2", "irq", "irq 0", "irq q q", "tick", "tick 1 1", "tick a", "\"tick\" 1", "tick 1;", "tick=1",
		"do b wait", "do b.00 wait", "do b.1 wait", "do b. wait", "do b[0] wait", "do b .0 wait", "do b.0.0 wait", "do A wait", "do 0 wait",
	} {
		holdWrong(t, people(), line, 1)
		holdWrong(t, people(), "tick 1\n\n"+line+"\ntick 1\n", 3)
	}
}

// A name is looked for among its own kind alone, and the first that has it is
// told.
func TestNames(t *testing.T) {
	p := people()
	holdScript(t, p, "do both signal both", api.Step{Kind: api.Signal, Subject: 4, Number: 1})
	holdScript(t, p, "do a status", api.Step{Kind: api.Status})
	holdScript(t, p, "do a unmask q", api.Step{Kind: api.Unmask, Number: 1})
	holdScript(t, p, "irq q", api.Step{Kind: api.Irq, Number: 1})
	for _, line := range []string{
		"do d wait", "do c.1.2 wait", "do q wait", "do p wait", "dma a load 0 1", "write a 0 1 2", "irq a", "irq d",
		"do a signal a", "do a signal q", "do a signal p", "do a switch a", "do a switch q", "do a unmask d", "do a unmask p",
	} {
		holdWrong(t, p, line, 1)
	}
	// Regions and the system have names, too, that no line asks for.
	p = api.Policy{Name: "s", Regions: []api.Region{{Name: "s"}}}
	for _, line := range []string{"do s wait", "irq s", "write s 0 1 0", "dma s load 0 1"} {
		holdWrong(t, p, line, 1)
	}
}

// Of any policy names alone are looked for, be they names of the language or not.
func TestAnyNames(t *testing.T) {
	for _, name := range []string{"7", "0x7", "-", "a-b", "é", "\xff", "a\xffb", "\xc3", "\ufffd", "a\vb", "a\u00a0b", "a\x00", "system", strings.Repeat("n", 5000)} {
		p := api.Policy{Subjects: []api.Subject{{Name: "a"}, {Name: name}}}
		holdScript(t, p, "do "+name+" wait", api.Step{Kind: api.Wait, Subject: 1})
		holdWrong(t, api.Policy{Subjects: []api.Subject{{Name: "a"}}}, "do "+name+" wait", 1)
	}
	p := api.Policy{Subjects: []api.Subject{{Name: "\xff"}, {Name: "\ufffd"}, {Name: "\xfe"}}}
	holdScript(t, p, "do \xfe wait\ndo \ufffd wait", api.Step{Kind: api.Wait, Subject: 2}, api.Step{Kind: api.Wait, Subject: 1})
	// These are no words.
	for _, name := range []string{"", " ", "a b", "a#", "#a", "a\n", "\na", "a\tb", "a\r"} {
		p := api.Policy{Subjects: []api.Subject{{Name: name}}}
		holdWrong(t, p, "do "+name+" wait", 1)
		holdWrong(t, p, "do wait", 1)
		holdWrong(t, p, "do  wait", 1)
	}
}

func TestBlanksAndRemarks(t *testing.T) {
	p := people()
	one := api.Step{Kind: api.Tick, Value: 1}
	for _, src := range []string{
		"tick 1", "tick 1\n", " tick 1", "\ttick\t1\t", "tick\r1\r\n", "\r \ttick \t\r 1 \r\t", "tick 1#", "tick 1#2", "tick 1 # 2 # 3",
		"tick 1 #\xff\x00\u2028", "\n\n\ntick 1", "tick 1\n\n\n", "# tick 2\ntick 1", "#\n # \n\t#tick\ntick 1\n#", "\r\n\r\ntick 1\r\n\r\n", "##tick 2\ntick 1##",
	} {
		holdScript(t, p, src, one)
	}
	for _, src := range []string{"", "\n", "\n\n", " ", "\r", "\t\n \n\r", "#", "# nothing", "#tick", "#\n#\n#", " \t\r# x"} {
		holdScript(t, p, src)
	}
	// What else looks like a blank is a part of a word; a remark ends its word.
	for _, src := range []string{
		"tick\v1", "tick\f1", "tick\x001", "tick\u00a01", "tick\u20281", "tick\u0085 1", "tick\x85 1", "\ufefftick 1", "tick 1\v", "tick 1\x00", "\v", "\f", "\x00",
		"tick#1", "tick #1", "ti#ck 1", "#\rtick 1\ntick", "do a wa#it", "\xef#",
	} {
		holdWrong(t, p, src, 1+strings.Count(src, "\n"))
	}
}

func TestLineNumbers(t *testing.T) {
	p := people()
	for n := 1; n < 40; n++ {
		holdWrong(t, p, strings.Repeat("tick 1\n", n-1)+"x", n)
		holdWrong(t, p, strings.Repeat("\n", n-1)+"x\n", n)
		holdWrong(t, p, strings.Repeat("# x\n", n-1)+"x\nx\ntick\n", n)
		holdWrong(t, p, strings.Repeat("\r\n", n-1)+"tick\r\n"+strings.Repeat("\n", n), n)
	}
	// A return is a blank, and ends no line.
	holdWrong(t, p, "tick 1\rtick 1", 1)
}

// numberLine are the lines with a number, the number left out, and the step with it.
func numberLine() map[string]func(n uint64) api.Step {
	return map[string]func(n uint64) api.Step{
		"tick %":            func(n uint64) api.Step { return api.Step{Kind: api.Tick, Value: n} },
		"write d % 1 2":     func(n uint64) api.Step { return api.Step{Kind: api.Write, At: n, Width: 1, Value: 2} },
		"write d 1 2 %":     func(n uint64) api.Step { return api.Step{Kind: api.Write, At: 1, Width: 2, Value: n} },
		"dma d load % 3":    func(n uint64) api.Step { return api.Step{Kind: api.Dma, Access: api.Load, At: n, Width: 3} },
		"dma d store % 1 2": func(n uint64) api.Step { return api.Step{Kind: api.Dma, Access: api.Store, At: n, Width: 1, Value: 2} },
		"dma d store 1 2 %": func(n uint64) api.Step { return api.Step{Kind: api.Dma, Access: api.Store, At: 1, Width: 2, Value: n} },
		"do a load % 3":     func(n uint64) api.Step { return api.Step{Kind: api.Access, Access: api.Load, At: n, Width: 3} },
		"do a fetch % 3":    func(n uint64) api.Step { return api.Step{Kind: api.Access, Access: api.Fetch, At: n, Width: 3} },
		"do a store % 1 2": func(n uint64) api.Step {
			return api.Step{Kind: api.Access, Access: api.Store, At: n, Width: 1, Value: 2}
		},
		"do a store 1 2 %": func(n uint64) api.Step {
			return api.Step{Kind: api.Access, Access: api.Store, At: 1, Width: 2, Value: n}
		},
		"do a poll %":  func(n uint64) api.Step { return api.Step{Kind: api.Poll, Value: n} },
		"do a arm % 5": func(n uint64) api.Step { return api.Step{Kind: api.Arm, At: n, Value: 5} },
		"do a arm 5 %": func(n uint64) api.Step { return api.Step{Kind: api.Arm, At: 5, Value: n} },
	}
}

// widthLine are those with a width.
func widthLine() map[string]func(n int) api.Step {
	return map[string]func(n int) api.Step{
		"write d 1 % 2":     func(n int) api.Step { return api.Step{Kind: api.Write, At: 1, Width: n, Value: 2} },
		"dma d load 1 %":    func(n int) api.Step { return api.Step{Kind: api.Dma, Access: api.Load, At: 1, Width: n} },
		"dma d store 1 % 2": func(n int) api.Step { return api.Step{Kind: api.Dma, Access: api.Store, At: 1, Width: n, Value: 2} },
		"do a load 1 %":     func(n int) api.Step { return api.Step{Kind: api.Access, Access: api.Load, At: 1, Width: n} },
		"do a fetch 1 %":    func(n int) api.Step { return api.Step{Kind: api.Access, Access: api.Fetch, At: 1, Width: n} },
		"do a store 1 % 2":  func(n int) api.Step { return api.Step{Kind: api.Access, Access: api.Store, At: 1, Width: n, Value: 2} },
	}
}

// spelt are ways to write a number.
func spelt(n uint64) []string {
	d, h := strconv.FormatUint(n, 10), strconv.FormatUint(n, 16)
	return []string{d, "0" + d, strings.Repeat("0", 300) + d, "0x" + h, "0x" + strings.Repeat("0", 16-len(h)) + h}
}

// noNumbers are words that none is.
func noNumbers() []string {
	return []string{
		"-1", "+1", "-0", "1.", ".1", "1.0", "1e3", "1_000", "0_1", "1K", "1M", "0x", "x1", "0x0x1", "00x1", "0X1", "0xA", "0xF", "0xg", "0x-1", "0x+1", "0x_1", "0x1_0", "0x1K",
		"0b1", "0o7", "0b", "a", "f", "1a", "1f", "1,000", "\u0661", "\uff11", "1\u0661", "0x\uff11", "1\xff", "1\x00", "'1'", "\"1\"",
		"18446744073709551616", "018446744073709551616", "18446744073709551620", "99999999999999999999", "184467440737095516150", "36893488147419103232",
		"340282366920938463463374607431768211456", "1" + strings.Repeat("0", 500), strings.Repeat("9", 5000),
		"0x00000000000000001", "0x00000000000000000", "0x10000000000000000", "0xfffffffffffffffff", "0x" + strings.Repeat("0", 300),
	}
}

func TestNumbers(t *testing.T) {
	p := people()
	for line, step := range numberLine() {
		for _, n := range []uint64{0, 1, 7, 8, 9, 10, 15, 16, 0xabcdef, 1 << 31, 1 << 32, 1<<63 - 1, 1 << 63, 10000000000000000000, 1<<64 - 16, 1<<64 - 2, 1<<64 - 1} {
			for _, word := range spelt(n) {
				holdScript(t, p, strings.ReplaceAll(line, "%", word), step(n))
			}
		}
		for _, word := range noNumbers() {
			holdWrong(t, p, strings.ReplaceAll(line, "%", word), 1)
		}
	}
}

func TestWidths(t *testing.T) {
	p := people()
	for line, step := range widthLine() {
		for _, n := range []int{0, 1, 3, 8, 255, 65536, 1<<31 - 2, 1<<31 - 1} {
			for _, word := range spelt(uint64(n)) {
				holdScript(t, p, strings.ReplaceAll(line, "%", word), step(n))
			}
		}
		for _, n := range []uint64{1 << 31, 1<<31 + 1, 1 << 32, 1<<32 + 1, 1 << 63, 1<<64 - 1} {
			for _, word := range spelt(n) {
				holdWrong(t, p, strings.ReplaceAll(line, "%", word), 1)
			}
		}
		for _, word := range noNumbers() {
			holdWrong(t, p, strings.ReplaceAll(line, "%", word), 1)
		}
	}
}

func TestLongest(t *testing.T) {
	p := people()
	head := "tick 1\nx#"
	for _, src := range []string{"tick 1\n#", "tick 1\n", "tick 1", "tick 1 "} {
		long := src + strings.Repeat(" ", api.MaxText-len(src))
		holdScript(t, p, long, api.Step{Kind: api.Tick, Value: 1})
	}
	holdWrong(t, p, head+strings.Repeat("#", api.MaxText-len(head)), 2)
	// Ahead of what is wrong in it a text is too long.
	for _, c := range []string{"#", " ", "\n", "x", "\x00"} {
		for _, n := range []int{api.MaxText + 1, api.MaxText + 2, 3 * api.MaxText} {
			script, line, why := Parse(p, bytes.Repeat([]byte(c), n))
			if why != api.ErrLong || line != 0 || len(script) != 0 {
				t.Errorf("P19.1: %d of %q: %d steps, %d, %v", n, c, len(script), line, why)
			}
		}
	}
}

// Many lines, a policy with many names, words without end.
func TestWideTexts(t *testing.T) {
	var p api.Policy
	for n := range 300000 {
		p.Irqs = append(p.Irqs, api.IrqLine{Name: strconv.Itoa(n)})
	}
	const last = "irq 299999\n"
	many := api.MaxText / len(last)
	script, _, why := Parse(p, []byte(strings.Repeat(last, many)))
	if why != api.OK || len(script) != many || script[0].Number != 299999 || script[many-1].Number != 299999 {
		t.Errorf("P19.1: %d lines of many names: %d steps, %v", many, len(script), why)
	}
	holdWrong(t, p, strings.Repeat("x ", api.MaxText/2), 1)
	holdWrong(t, p, strings.Repeat("x", api.MaxText), 1)
	holdWrong(t, p, "tick "+strings.Repeat("9", api.MaxText-5), 1)
	holdScript(t, p, "tick "+strings.Repeat("0", api.MaxText-6)+"1", api.Step{Kind: api.Tick, Value: 1})
	holdWrong(t, p, strings.Repeat("\n", api.MaxText-1)+"x", api.MaxText)
}

// What is handed in is as it was, its spare room too; answers share nothing.
func TestParseTouchesNothing(t *testing.T) {
	p, was := people(), people()
	room := []byte("tick 1\ndo a wait\nirq q\nspare room of this text")
	old := bytes.Clone(room)
	src := room[:22]
	first, _, why := Parse(p, src)
	if why != api.OK || len(first) != 3 {
		t.Fatalf("P19.1: %+v, %v", first, why)
	}
	for n := range first {
		first[n] = api.Step{}
	}
	_ = append(first, api.Step{Kind: 99})
	again, _, _ := Parse(p, src)
	if len(again) != 3 || again[0].Value != 1 || again[2].Number != 1 {
		t.Errorf("R2: what was answered is kept: %+v", again)
	}
	if !bytes.Equal(room, old) || !reflect.DeepEqual(p, was) {
		t.Error("R2: what was handed in is changed")
	}
	if script, line, why := Parse(api.Policy{}, nil); len(script) != 0 || line != 0 || why != api.OK {
		t.Errorf("R1: nothing: %+v, %d, %v", script, line, why)
	}
}

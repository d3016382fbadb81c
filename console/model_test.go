package console

import (
	"math/big"
	"regexp"
	"slices"
	"strings"

	"bulkhead/api"
)

// shape is a line of the chapter's table: its words, and how its step is filled.
// In capitals stand names (of which list) and numbers.
type shape struct {
	words string
	kind  int
	acc   int
}

var shapes = []shape{
	{"tick VALUE", api.Tick, 0},
	{"write DEVICE AT WIDTH VALUE", api.Write, 0},
	{"dma DEVICE load AT WIDTH", api.Dma, api.Load},
	{"dma DEVICE store AT WIDTH VALUE", api.Dma, api.Store},
	{"irq IRQ", api.Irq, 0},
	{"do SUBJECT load AT WIDTH", api.Access, api.Load},
	{"do SUBJECT fetch AT WIDTH", api.Access, api.Fetch},
	{"do SUBJECT store AT WIDTH VALUE", api.Access, api.Store},
	{"do SUBJECT signal CHANNEL", api.Signal, 0},
	{"do SUBJECT poll VALUE", api.Poll, 0},
	{"do SUBJECT wait", api.Wait, 0},
	{"do SUBJECT arm AT VALUE", api.Arm, 0},
	{"do SUBJECT status", api.Status, 0},
	{"do SUBJECT switch PLAN", api.Switch, 0},
	{"do SUBJECT unmask IRQ", api.Unmask, 0},
}

var (
	modelDecimal = regexp.MustCompile(`^[0-9]+$`)
	modelHex     = regexp.MustCompile(`^0x[0-9a-f]{1,16}$`)
	modelRemark  = regexp.MustCompile(`(?s)#.*$`)
)

func modelNumber(word string, bits uint) (uint64, bool) {
	n := new(big.Int)
	switch {
	case modelDecimal.MatchString(word):
		n.SetString(word, 10)
	case modelHex.MatchString(word):
		n.SetString(word[2:], 16)
	default:
		return 0, false
	}
	return n.Uint64(), n.BitLen() <= int(bits)
}

func modelNames(p api.Policy, of string) []string {
	var out []string
	switch of {
	case "SUBJECT":
		for _, x := range p.Subjects {
			out = append(out, x.Name)
		}
	case "DEVICE":
		for _, x := range p.Devices {
			out = append(out, x.Name)
		}
	case "CHANNEL":
		for _, x := range p.Channels {
			out = append(out, x.Name)
		}
	case "IRQ":
		for _, x := range p.Irqs {
			out = append(out, x.Name)
		}
	case "PLAN":
		for _, x := range p.Plans {
			out = append(out, x.Name)
		}
	}
	return out
}

// modelFill fills a step's field with a word, if it may stand there.
func modelFill(p api.Policy, s *api.Step, field, word string) bool {
	var ok bool
	var wide uint64
	switch field {
	case "AT":
		s.At, ok = modelNumber(word, 64)
	case "VALUE":
		s.Value, ok = modelNumber(word, 64)
	case "WIDTH":
		wide, ok = modelNumber(word, 31)
		s.Width = int(wide)
	case "SUBJECT":
		s.Subject = slices.Index(modelNames(p, field), word)
		ok = s.Subject >= 0
	case "DEVICE", "CHANNEL", "IRQ", "PLAN":
		s.Number = slices.Index(modelNames(p, field), word)
		ok = s.Number >= 0
	default:
		ok = field == word
	}
	return ok
}

func modelLine(p api.Policy, words []string) (api.Step, bool) {
	for _, form := range shapes {
		fields := strings.Fields(form.words)
		if len(fields) != len(words) {
			continue
		}
		s, ok := api.Step{Kind: form.kind, Access: form.acc}, true
		for n := range fields {
			ok = ok && modelFill(p, &s, fields[n], words[n])
		}
		if ok {
			return s, true
		}
	}
	return api.Step{}, false
}

// modelParse is Parse, word by word of the chapter.
func modelParse(p api.Policy, text []byte) ([]api.Step, int, api.Errno) {
	if len(text) > 1<<20 {
		return nil, 0, api.ErrLong
	}
	var script []api.Step
	for n, line := range strings.Split(string(text), "\n") {
		words := strings.FieldsFunc(modelRemark.ReplaceAllString(line, ""), func(r rune) bool {
			return strings.ContainsRune(" \t\r", r)
		})
		if len(words) == 0 {
			continue
		}
		s, ok := modelLine(p, words)
		if !ok {
			return nil, n + 1, api.ErrScript
		}
		script = append(script, s)
	}
	return script, 0, api.OK
}

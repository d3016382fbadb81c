package console

import (
	"strconv"
	"strings"

	"bulkhead/api"
	"bulkhead/scan"
)

// line spells a step, with what its kind tells of it. A step that no line tells is
// spelt as one that is not read so: a word is missing, or all of them.
func (k names) line(s api.Step) string {
	return strings.Join(k.spelt(s), " ") + "\n"
}

func (k names) spelt(s api.Step) []string {
	device := nameAt(k.devices, s.Number)
	switch s.Kind {
	case api.Tick:
		return []string{"tick", decimal(s.Value)}
	case api.Write:
		return []string{"write", device, hexadecimal(s.At), strconv.Itoa(s.Width), hexadecimal(s.Value)}
	case api.Dma:
		return append([]string{"dma", device}, reached(s)...)
	case api.Irq:
		return []string{"irq", nameAt(k.irqs, s.Number)}
	}
	return append([]string{"do", nameAt(k.subjects, s.Subject)}, k.call(s)...)
}

// call spells what a subject does.
func (k names) call(s api.Step) []string {
	switch s.Kind {
	case api.Access:
		return reached(s)
	case api.Signal:
		return []string{"signal", nameAt(k.channels, s.Number)}
	case api.Poll:
		return []string{"poll", decimal(s.Value)}
	case api.Wait:
		return []string{"wait"}
	case api.Arm:
		return []string{"arm", decimal(s.At), decimal(s.Value)}
	case api.Status:
		return []string{"status"}
	case api.Switch:
		return []string{"switch", nameAt(k.plans, s.Number)}
	case api.Unmask:
		return []string{"unmask", nameAt(k.irqs, s.Number)}
	}
	return nil
}

// reached spells an access.
func reached(s api.Step) []string {
	at, width := hexadecimal(s.At), strconv.Itoa(s.Width)
	switch s.Access {
	case api.Load:
		return []string{"load", at, width}
	case api.Fetch:
		return []string{"fetch", at, width}
	case api.Store:
		return []string{"store", at, width, hexadecimal(s.Value)}
	}
	return nil
}

func decimal(n uint64) string { return string(scan.Number(n)) }

func hexadecimal(n uint64) string { return "0x" + strconv.FormatUint(n, 16) }

package console

import "bulkhead/api"

// names are a policy's, each kind by its numbers.
type names struct{ subjects, devices, channels, irqs, plans []string }

func namesOf(p api.Policy) names {
	return names{
		subjects: named(p.Subjects, func(s api.Subject) string { return s.Name }),
		devices:  named(p.Devices, func(d api.Device) string { return d.Name }),
		channels: named(p.Channels, func(c api.Channel) string { return c.Name }),
		irqs:     named(p.Irqs, func(q api.IrqLine) string { return q.Name }),
		plans:    named(p.Plans, func(p api.Plan) string { return p.Name }),
	}
}

// named are the names of the things in a list.
func named[T any](list []T, name func(T) string) []string {
	out := make([]string, len(list))
	for n, x := range list {
		out[n] = name(x)
	}
	return out
}

// register tells the number of a name.
type register map[string]int

// numbered is the register of a row of names; of those that are alike the first
// counts.
func numbered(row []string) register {
	out := make(register, len(row))
	for n, name := range row {
		if _, ok := out[name]; !ok {
			out[name] = n
		}
	}
	return out
}

// nameAt is the name with a number; none is no word.
func nameAt(row []string, n int) string {
	if n < 0 || n >= len(row) {
		return ""
	}
	return row[n]
}

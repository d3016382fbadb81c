package forge

import (
	"slices"

	"bulkhead/api"
)

// copied is a policy that shares no list with the one that is handed in.
func copied(p api.Policy) api.Policy {
	p.Rams = slices.Clone(p.Rams)
	p.Devices = each(p.Devices, func(d *api.Device) { d.Maps = slices.Clone(d.Maps) })
	p.Regions = slices.Clone(p.Regions)
	p.Subjects = each(p.Subjects, func(s *api.Subject) {
		s.Maps = slices.Clone(s.Maps)
		s.Rules = slices.Clone(s.Rules)
	})
	p.Channels = slices.Clone(p.Channels)
	p.Irqs = slices.Clone(p.Irqs)
	p.Plans = each(p.Plans, func(n *api.Plan) {
		n.Lanes = each(n.Lanes, func(l *api.Lane) { l.Runs = slices.Clone(l.Runs) })
	})
	p.Masters = slices.Clone(p.Masters)
	p.Starts = slices.Clone(p.Starts)
	return p
}

// each is a list's copy whose members are made new ones.
func each[T any](list []T, renew func(*T)) []T {
	out := slices.Clone(list)
	for i := range out {
		renew(&out[i])
	}
	return out
}

package forge

import (
	"testing"

	"bulkhead/api"
	"bulkhead/bundle"
	"bulkhead/bus"
	"bulkhead/walk"
)

// machine is a new machine of a policy's bus, with its image's bytes where they
// are to lie.
func machine(t *testing.T, b Built) *bus.Machine {
	t.Helper()
	m, why := bus.New(Bus(b.Policy))
	if why != api.OK {
		t.Fatalf("P14.6: %v", why)
	}
	for n, x := range b.Image {
		if f := m.Store(b.Layout.Image+uint64(n), 1, uint64(x)); f.Why != api.OK {
			t.Fatalf("P14.4: byte %d of the image: %v", n, f)
		}
	}
	return m
}

// seen tells which map of a space a virtual address is in.
func seen(p api.Policy, maps []api.Map, v uint64) (api.Map, uint64, bool) {
	for _, m := range maps {
		size := uint64(0)
		if n := regionOf(p, m.Of); n >= 0 {
			size = p.Regions[n].Size
		} else {
			size = p.Devices[deviceOf(p, m.Of)].Size
		}
		if v >= m.At && v-m.At < size {
			return m, v - m.At, true
		}
	}
	return api.Map{}, 0, false
}

// holdSpace holds what a root translates against what the maps say, at both
// ends of each page of theirs and at those beside them.
func holdSpace(t *testing.T, what string, b Built, m *bus.Machine, root uint64, maps []api.Map) {
	t.Helper()
	p := b.Policy
	ask := func(v uint64) {
		of, behind, ok := seen(p, maps, v)
		for access := api.Load; access <= api.Fetch; access++ {
			at, fault := walk.Translate(m, root, v, access)
			want, right := uint64(0), api.OK
			switch {
			case v >= api.MaxVirt:
				right = api.ErrHole
			case !ok:
				right = api.ErrAbsent
			case access == api.Store && !of.Write:
				right = api.ErrWrite
			case access == api.Fetch && !of.Exec:
				right = api.ErrExec
			case regionOf(p, of.Of) >= 0:
				want = b.Layout.Regions[regionOf(p, of.Of)] + behind
			default:
				want = p.Devices[deviceOf(p, of.Of)].At + behind
			}
			if at != want || fault.Why != right {
				t.Fatalf("P14.5: %s: access %d at %#x: %#x, %v, want %#x, %v", what, access, v, at, fault, want, right)
			}
		}
	}
	ask(0)
	for _, x := range maps {
		v := x.At
		for _, _, ok := seen(p, maps, v); ok; _, _, ok = seen(p, maps, v) {
			ask(v)
			ask(v + 4095)
			v += 4096
		}
		ask(x.At - 1)
		ask(v)
	}
}

// TestSpaces: P14.5: walked on the machine, where the image lies, each space is
// what its maps say.
func TestSpaces(t *testing.T) {
	t.Parallel()
	for _, src := range []string{whole, family(3), family(64)} {
		b := compiled(t, src)
		holdSpaces(t, b)
	}
}

func holdSpaces(t *testing.T, b Built) {
	t.Helper()
	m := machine(t, b)
	i, _, why := bundle.Decode(b.Image)
	if why != api.OK {
		t.Fatalf("P14.4: %v", why)
	}
	root := func(n int) uint64 {
		return i.Base + uint64(b.Layout.Pages-len(i.Tables)+n)*4096
	}
	for n, s := range b.Policy.Subjects {
		holdSpace(t, s.Name, b, m, root(i.Subjects[n].Root), s.Maps)
	}
	for n, d := range b.Policy.Devices {
		if (i.Devices[n].Root < 0) != (len(d.Maps) == 0) {
			t.Fatalf("P14.5: %s: root %d", d.Name, i.Devices[n].Root)
		}
		if len(d.Maps) > 0 {
			holdSpace(t, d.Name, b, m, root(i.Devices[n].Root), d.Maps)
		}
	}
}

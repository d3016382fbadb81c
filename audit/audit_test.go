package audit

import (
	"bytes"
	"fmt"
	"math"
	"slices"
	"strings"
	"testing"

	"bulkhead/api"
	"bulkhead/boot"
	"bulkhead/flow"
)

// TestRuns: the chapter's runs and examples.
func TestRuns(t *testing.T) {
	t.Parallel()
	one, two := family(t, 1), family(t, 2)
	if f := facts(t, two.Image); !sameFacts(f, api.Facts{Subjects: 2, Devices: 2, Irqs: []int{0}, Edges: edges(0, 1, 0, 2, 1, 0, 2, 0, 3, 0)}) {
		t.Errorf("P18.1: the family of two: %+v", f)
	}
	if f := facts(t, one.Image); !sameFacts(f, api.Facts{Subjects: 1, Devices: 2, Irqs: []int{0}, Edges: edges(0, 1, 1, 0, 2, 0)}) {
		t.Errorf("P18.1: the family of one: %+v", f)
	}
	buffer := api.Leaf{Phys: two.Layout.Regions[0], Pages: 4, Write: true}
	if rows := reach(t, two.Image, 3); !slices.Equal(rows, []api.Leaf{buffer}) {
		t.Errorf("P18.2: the disk: %+v", rows)
	}
	if rows := reach(t, two.Image, 2); len(rows) != 0 {
		t.Errorf("P18.2: a device without tables: %+v", rows)
	}
	for _, raw := range [][]byte{one.Image, two.Image} {
		_, err := Reach(raw, 4)
		holdError(t, "P18.2: actor 4", err, boot.Refusal{Why: api.ErrActor})
	}
	if text := list(t, one.Image); !strings.Contains(text, "\nsubject 0 cpu 0 tables 0\n") {
		t.Errorf("P18.3: the family of one:\n%s", text)
	}
	gone, come, err := Compare(one.Image, one.Image)
	if err != nil || len(gone)+len(come) != 0 {
		t.Errorf("P18.4: an image with itself: %v, %v, %v", gone, come, err)
	}
	holdRefused(t, "no bytes", nil, boot.Refusal{Why: api.ErrShort})
}

// TestPages: P18.1: edges by what is mapped. The actors 0 to 2 are subjects, 3
// to 5 devices; RAM ends where the first window begins, and that one ends where
// the third begins.
func TestPages(t *testing.T) {
	t.Parallel()
	const ram, last = 0x300000, 0x9ff000
	big := func(virt, phys uint64, n int, write bool) api.Leaf {
		return api.Leaf{Virt: virt, Phys: phys, Pages: 512 * n, Big: true, Write: write}
	}
	for what, c := range map[string]struct {
		maps spaces
		want []api.Edge
	}{
		"nothing":                          {nil, nil},
		"a page, one writes":               {spaces{0: {stored(0, ram, 1)}, 1: {leaf(0, ram, 1)}}, edges(0, 1)},
		"a page, both read":                {spaces{0: {leaf(0, ram, 1)}, 1: {leaf(0, ram, 1)}}, nil},
		"a page, both write":               {spaces{0: {stored(0, ram, 1)}, 2: {stored(1<<38, ram, 1)}}, edges(0, 2, 2, 0)},
		"a page, fetched from":             {spaces{0: {{Phys: ram, Pages: 1, Exec: true}}, 1: {{Phys: ram, Pages: 1, Exec: true}}}, nil},
		"a page, written and fetched from": {spaces{0: {{Phys: ram, Pages: 1, Exec: true, Write: true}}, 1: {{Phys: ram, Pages: 1, Exec: true}}}, edges(0, 1)},
		"a page, alone":                    {spaces{0: {stored(0, ram, 1)}}, nil},
		"pages that touch":                 {spaces{0: {stored(0, ram, 2)}, 1: {leaf(0, ram+0x2000, 1)}, 2: {leaf(0, ram-0x1000, 1)}}, nil},
		"the last page of several":         {spaces{0: {stored(0, ram, 4)}, 1: {leaf(0, ram+0x3000, 1)}}, edges(0, 1)},
		"the last page of the reader's":    {spaces{0: {stored(0, ram, 1)}, 1: {leaf(0, ram-0x3000, 4)}}, edges(0, 1)},
		"a page twice":                     {spaces{0: {leaf(0, ram, 1), stored(0x5000, ram, 1), leaf(0x9000, ram, 1)}, 1: {leaf(0x1000, ram, 1), leaf(0x5000, ram, 1)}}, edges(0, 1)},
		"a page twice, written first":      {spaces{0: {stored(0, ram, 1), leaf(0x5000, ram, 1)}, 1: {leaf(0, ram, 1)}}, edges(0, 1)},
		"a page, three":                    {spaces{0: {stored(0, ram, 1)}, 1: {leaf(0, ram, 1)}, 2: {stored(0, ram, 1)}}, edges(0, 1, 0, 2, 2, 0, 2, 1)},
		"two pages, a row":                 {spaces{0: {stored(0, ram, 1)}, 1: {leaf(0, ram, 1), stored(0x1000, ram+0x1000, 1)}, 2: {leaf(0, ram+0x1000, 1)}}, edges(0, 1, 1, 2)},
		"a big page, its first":            {spaces{0: {big(0, 0x400000, 1, true)}, 1: {leaf(0, 0x400000, 1)}}, edges(0, 1)},
		"a big page, its last":             {spaces{0: {big(0, 0x400000, 1, true)}, 1: {leaf(0, 0x5ff000, 1)}}, edges(0, 1)},
		"a big page, beside it":            {spaces{0: {big(0, 0x400000, 1, true)}, 1: {leaf(0, 0x3ff000, 1), leaf(0x1000, 0x600000, 1)}}, nil},
		"a big page that is read":          {spaces{0: {big(0, 0x400000, 1, false)}, 1: {stored(0, 0x567000, 1)}}, edges(1, 0)},
		"big pages":                        {spaces{0: {big(0, 0x400000, 2, true)}, 1: {big(1<<30, 0x600000, 2, false)}, 2: {big(0, 0x800000, 1, true)}}, edges(0, 1, 2, 1)},
		"a big page, read and written":     {spaces{0: {big(0, 0x400000, 1, false), big(1<<21, 0x400000, 1, true)}, 1: {leaf(0, 0x4ff000, 1)}}, edges(0, 1)},
		"a device's dma writes":            {spaces{4: {stored(0, ram, 1)}, 1: {leaf(0, ram, 1)}}, edges(4, 1)},
		"a device's dma reads":             {spaces{4: {leaf(0, ram, 1)}, 1: {stored(0, ram, 1)}}, edges(1, 4)},
		"two devices":                      {spaces{4: {leaf(0, ram, 1)}, 5: {stored(0, ram, 1)}}, edges(5, 4)},
		"a window that is read":            {spaces{0: {leaf(0, 0xf0000000, 1)}}, edges(4, 0)},
		"a window that is written":         {spaces{1: {stored(0, 0xf0000000, 1)}}, edges(1, 4, 4, 1)},
		"a window's last page":             {spaces{1: {stored(0, 0xa04000, 1)}}, edges(1, 5, 5, 1)},
		"a window's pages are one object":  {spaces{0: {stored(0, 0xa02000, 1)}, 1: {leaf(0, 0xa04000, 1)}}, edges(0, 1, 0, 5, 5, 0, 5, 1)},
		"windows that touch":               {spaces{0: {stored(0, 0xa01000, 1)}, 1: {leaf(0, 0xa02000, 1)}}, edges(0, 3, 3, 0, 5, 1)},
		"a row through RAM and windows":    {spaces{0: {stored(0, last, 4)}, 1: {leaf(0, last, 1)}, 2: {leaf(0, 0xa04000, 1)}}, edges(0, 1, 0, 2, 0, 3, 0, 5, 3, 0, 5, 0, 5, 2)},
		"RAM beside a window":              {spaces{0: {stored(0, last, 1)}, 1: {leaf(0, 0xa00000, 1)}}, edges(3, 1)},
		"a device's own window":            {spaces{4: {stored(0, 0xf0000000, 1)}}, nil},
		"another's window, read by dma":    {spaces{3: {leaf(0, 0xf0000000, 1)}}, edges(4, 3)},
		"another's window, written by dma": {spaces{3: {stored(0, 0xf0000000, 1)}}, edges(3, 4, 4, 3)},
		"the highest addresses":            {spaces{0: {stored(1<<39-4096, last, 1)}, 1: {leaf(1<<39-4096, last, 1)}}, edges(0, 1)},
	} {
		f := facts(t, with(t, bench(3), c.maps))
		if !sameFacts(f, api.Facts{Subjects: 3, Devices: 3, Edges: c.want}) {
			t.Errorf("P18.1: %s: %+v, want %v", what, f, c.want)
		}
	}
}

// TestTouchingRams: P18.1: a big page may lie in two spans of RAM.
func TestTouchingRams(t *testing.T) {
	t.Parallel()
	i := bench(2)
	i.Bus.Rams = []api.Range{{At: 0x500000, Size: 5 << 20}, {At: 0x200000, Size: 3 << 20}}
	raw := with(t, i, spaces{0: {{Phys: 0x400000, Pages: 512, Big: true, Write: true}}, 1: {leaf(0, 0x4ff000, 2)}})
	if f := facts(t, raw); !slices.Equal(f.Edges, edges(0, 1)) {
		t.Errorf("P18.1: %+v", f)
	}
}

// TestLinks: P18.1: edges by what else the image says.
func TestLinks(t *testing.T) {
	t.Parallel()
	plans := func(n int) func(i *api.Image) {
		return func(i *api.Image) {
			for len(i.Plans) < n {
				i.Plans = append(i.Plans, i.Plans[0])
			}
		}
	}
	rule := func(how, to, vector int) func(i *api.Image) {
		return func(i *api.Image) { i.Subjects[1].Rule, i.Subjects[1].To, i.Subjects[1].Vector = how, to, vector }
	}
	channel := func(how int) func(i *api.Image) {
		return func(i *api.Image) { i.Channels = []api.Link{{From: 2, To: 0, Effect: how}} }
	}
	for what, c := range map[string]struct {
		change func(i *api.Image)
		irqs   []int
		want   []api.Edge
	}{
		"a channel, vector":            {channel(api.ByVector), nil, edges(2, 0)},
		"a channel, reset":             {channel(api.ByReset), nil, edges(2, 0)},
		"a channel, stop":              {channel(api.ByStop), nil, edges(2, 0)},
		"a channel, start":             {channel(api.ByStart), nil, edges(2, 0)},
		"a rule that tells":            {rule(api.ByVector, 2, 5), nil, edges(1, 2)},
		"a rule that tells the first":  {rule(api.ByVector, 0, 0), nil, edges(1, 0)},
		"a rule that resets":           {rule(api.ByReset, -1, 0), nil, nil},
		"a rule that stops":            {rule(api.ByStop, -1, 0), nil, nil},
		"two plans, nobody the master": {plans(2), nil, nil},
		"one plan and a master":        {func(i *api.Image) { i.Master = 1 }, nil, nil},
		"two plans and a master":       {func(i *api.Image) { plans(2)(i); i.Master = 1 }, nil, edges(1, 0, 1, 2)},
		"16 plans and a master":        {func(i *api.Image) { plans(16)(i); i.Master = 0 }, nil, edges(0, 1, 0, 2)},
		"an irq":                       {func(i *api.Image) { i.Irqs = []api.Link{{From: 1, To: 2, Effect: 1}} }, []int{1}, edges(4, 2)},
		"irqs of one device, to itself": {func(i *api.Image) {
			i.Irqs = []api.Link{{From: 2, To: 0, Effect: 1}, {From: 0, To: 0, Effect: 1, Masked: true}, {From: 2, To: 1, Effect: 1, Vector: 63}}
		}, []int{2, 0, 2}, edges(3, 0, 5, 0, 5, 1)},
		"one edge, told often": {func(i *api.Image) {
			channel(api.ByStop)(i)
			i.Channels = append(i.Channels, i.Channels[0], api.Link{From: 1, To: 0, Effect: api.ByReset})
			rule(api.ByVector, 0, 9)(i)
			plans(3)(i)
			i.Master = 1
		}, nil, edges(1, 0, 1, 2, 2, 0)},
	} {
		i := bench(3)
		c.change(&i)
		f := facts(t, with(t, i, nil))
		if !sameFacts(f, api.Facts{Subjects: 3, Devices: 3, Irqs: c.irqs, Edges: c.want}) {
			t.Errorf("P18.1: %s: %+v, want %v", what, f, c.want)
		}
	}
}

// TestNobody: P18.1, P18.2, P18.3: an image without subjects, with and without
// devices.
func TestNobody(t *testing.T) {
	t.Parallel()
	i := bench(0)
	raw := with(t, i, nil)
	if f := facts(t, raw); !sameFacts(f, api.Facts{Devices: 3}) {
		t.Errorf("P18.1: devices alone: %+v", f)
	}
	if rows := reach(t, raw, 2); len(rows) != 0 {
		t.Errorf("P18.2: devices alone: %+v", rows)
	}
	i.Bus.Devices, i.Devices = nil, nil
	i.Bus.Rams = i.Bus.Rams[1:]
	raw = with(t, i, nil)
	if f := facts(t, raw); !sameFacts(f, api.Facts{}) {
		t.Errorf("P18.1: nobody: %+v", f)
	}
	_, err := Reach(raw, 0)
	holdError(t, "P18.2: nobody", err, boot.Refusal{Why: api.ErrActor})
	want := "image 0x200000 pages 1\nram 0x200000 size 0x400000\nplan 0 major 1\n  cpu 0: - x 1\n  cpu 1: - x 1\n  cpu 2: - x 1\n  cpu 3: - x 1\nmaster -\nstart 0\n"
	if text := list(t, raw); text != want {
		t.Errorf("P18.3: nobody:\n%s", text)
	}
}

// TestReach: P18.2: each row as long as it may be, rising.
func TestReach(t *testing.T) {
	t.Parallel()
	big := func(virt, phys uint64, n int) api.Leaf {
		return api.Leaf{Virt: virt, Phys: phys, Pages: 512 * n, Big: true, Write: true}
	}
	exec := api.Leaf{Virt: 0x4000, Phys: 0x304000, Pages: 1, Exec: true}
	for what, c := range map[string]struct{ rows, want []api.Leaf }{
		"pages that go on":           {[]api.Leaf{leaf(0, 0x300000, 1), leaf(0x1000, 0x301000, 2)}, []api.Leaf{leaf(0, 0x300000, 3)}},
		"pages that may more":        {[]api.Leaf{leaf(0, 0x300000, 4), exec, stored(0x5000, 0x305000, 1)}, []api.Leaf{leaf(0, 0x300000, 4), exec, stored(0x5000, 0x305000, 1)}},
		"pages with a hole":          {[]api.Leaf{leaf(0, 0x300000, 1), leaf(0x2000, 0x301000, 1)}, []api.Leaf{leaf(0, 0x300000, 1), leaf(0x2000, 0x301000, 1)}},
		"pages from elsewhere":       {[]api.Leaf{leaf(0, 0x301000, 1), leaf(0x1000, 0x300000, 1)}, []api.Leaf{leaf(0, 0x301000, 1), leaf(0x1000, 0x300000, 1)}},
		"through two tables":         {[]api.Leaf{leaf(0x1ff000, 0x300000, 2)}, []api.Leaf{leaf(0x1ff000, 0x300000, 2)}},
		"through two GiB":            {[]api.Leaf{stored(1<<30-4096, 0x300000, 2)}, []api.Leaf{stored(1<<30-4096, 0x300000, 2)}},
		"a big page and one of 4096": {[]api.Leaf{big(0, 0x600000, 1), stored(1<<21, 0x800000, 1), big(1<<22, 0x400000, 3)}, []api.Leaf{big(0, 0x600000, 1), stored(1<<21, 0x800000, 1), big(1<<22, 0x400000, 3)}},
		"the last page":              {[]api.Leaf{stored(1<<39-4096, 0xa00000, 1)}, []api.Leaf{stored(1<<39-4096, 0xa00000, 1)}},
		"RAM and windows":            {[]api.Leaf{stored(0, 0x9ff000, 5)}, []api.Leaf{stored(0, 0x9ff000, 5)}},
	} {
		raw := with(t, bench(2), spaces{0: {leaf(0, 0x5ff000, 1)}, 1: c.rows, 3: {leaf(0x7000, 0x300000, 1)}, 4: c.rows})
		for _, actor := range []int{1, 4} {
			if rows := reach(t, raw, actor); !slices.Equal(rows, c.want) {
				t.Errorf("P18.2: %s: %d: %+v, want %+v", what, actor, rows, c.want)
			}
		}
		for _, actor := range []int{5, 6, -1, -2, math.MaxInt, math.MinInt} {
			rows, err := Reach(raw, actor)
			holdError(t, fmt.Sprintf("P18.2: %s: actor %d", what, actor), err, boot.Refusal{Why: api.ErrActor})
			if len(rows) > 0 {
				t.Errorf("R3: %s: actor %d: %+v", what, actor, rows)
			}
		}
	}
}

// TestRefusals: all four calls: what the loader refuses on the image's own bus,
// ahead of an actor that is none.
func TestRefusals(t *testing.T) {
	t.Parallel()
	raw := family(t, 2).Image
	turned := func(at int) []byte {
		b := bytes.Clone(raw)
		b[at] ^= 1
		return b
	}
	changed := func(change func(i *api.Image)) []byte {
		i := read(t, raw)
		change(&i)
		return laid(t, i)
	}
	for what, c := range map[string]struct {
		raw  []byte
		want boot.Refusal
	}{
		"no bytes":          {[]byte{}, boot.Refusal{Why: api.ErrShort}},
		"a header, no more": {raw[:160], boot.Refusal{At: 160, Why: api.ErrShort}},
		"a byte too few":    {raw[:len(raw)-1], boot.Refusal{At: len(raw) - 1, Why: api.ErrShort}},
		"a byte too many":   {append(bytes.Clone(raw), 0), boot.Refusal{At: len(raw), Why: api.ErrTail}},
		"another text":      {turned(0), boot.Refusal{Why: api.ErrMagic}},
		"a sum":             {turned(20), boot.Refusal{At: 152, Why: api.ErrSum}},
		"zeros":             {make([]byte, 8192), boot.Refusal{Why: api.ErrMagic}},
		"no bus":            {changed(func(i *api.Image) { i.Bus.Rams[0].Size = 5 }), boot.Refusal{Section: 1, Why: api.ErrBus}},
		"a window in RAM":   {changed(func(i *api.Image) { i.Bus.Devices[0].At = i.Bus.Rams[0].At }), boot.Refusal{Section: 1, Why: api.ErrBus}},
		"out of RAM":        {changed(func(i *api.Image) { i.Base = 0 }), boot.Refusal{Why: api.ErrBase}},
		"a CPU":             {changed(func(i *api.Image) { i.Subjects[1].CPU = 4 }), boot.Refusal{Section: 2, At: 1, Why: api.ErrCPU}},
		"a port":            {changed(func(i *api.Image) { i.Devices[0].Root = 500 }), boot.Refusal{Section: 3, Why: api.ErrRoot}},
		"a region":          {changed(func(i *api.Image) { i.Regions[2].Size = 0 }), boot.Refusal{Section: 4, At: 2, Why: api.ErrSize}},
		"a channel":         {changed(func(i *api.Image) { i.Channels[0].To = 1 }), boot.Refusal{Section: 5, Why: api.ErrEnds}},
		"an irq":            {changed(func(i *api.Image) { i.Irqs[0].From = 2 }), boot.Refusal{Section: 6, Why: api.ErrDevice}},
		"no plan":           {changed(func(i *api.Image) { i.Plans = nil }), boot.Refusal{Section: 7, Why: api.ErrPlan}},
		"a leaf":            {changed(func(i *api.Image) { i.Tables[2][1] = i.Base | 1 }), boot.Refusal{Section: 8, At: 2, Why: api.ErrLeaf}},
		"a table too many":  {changed(func(i *api.Image) { i.Tables = nil; i.Subjects = nil; i.Channels = nil; i.Irqs = nil }), boot.Refusal{Section: 3, At: 1, Why: api.ErrRoot}},
	} {
		holdRefused(t, what, c.raw, c.want)
	}
}

// TestCompare: P18.4: which edges are gone, which have come, and what is refused
// of the first goes ahead.
func TestCompare(t *testing.T) {
	t.Parallel()
	was := with(t, bench(3), spaces{0: {stored(0, 0x300000, 1)}, 1: {leaf(0, 0x300000, 1)}, 4: {stored(0, 0x300000, 1)}})
	i := bench(3)
	i.Channels = []api.Link{{From: 0, To: 1, Effect: api.ByStop}, {From: 2, To: 1, Effect: api.ByReset}}
	i.Irqs = []api.Link{{From: 2, To: 0, Effect: api.ByVector}}
	is := with(t, i, nil)
	gone, come, err := Compare(was, is)
	if err != nil || !slices.Equal(gone, edges(0, 4, 4, 0, 4, 1)) || !slices.Equal(come, edges(2, 1, 5, 0)) {
		t.Errorf("P18.4: %v, %v, %v", gone, come, err)
	}
	gone, come, err = Compare(is, was)
	if err != nil || !slices.Equal(come, edges(0, 4, 4, 0, 4, 1)) || !slices.Equal(gone, edges(2, 1, 5, 0)) {
		t.Errorf("P18.4: the other way: %v, %v, %v", gone, come, err)
	}
	one, three := family(t, 1).Image, family(t, 3).Image
	gone, come, err = Compare(one, three)
	left, right := flow.Diff(facts(t, one), facts(t, three))
	if err != nil || !slices.Equal(gone, left) || !slices.Equal(come, right) {
		t.Errorf("P18.4: two families: %v, %v, %v", gone, come, err)
	}
	_, _, err = Compare(was[:4095], nil)
	holdError(t, "P18.4: both are refused", err, boot.Refusal{At: 4095, Why: api.ErrShort})
	_, _, err = Compare(nil, append(was, 1))
	holdError(t, "P18.4: both are refused", err, boot.Refusal{Why: api.ErrShort})
}

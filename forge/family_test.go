package forge

import (
	"math"
	"strconv"
	"strings"
	"testing"

	"bulkhead/api"
)

// familyLines are the chapter's lines.
var familyLines = []string{
	`system family {`,
	`  const n = N;`,
	`  ram 0x100000 size 8M;`,
	`  device uart at 0xf0000000 size 4K;`,
	`  device disk at 0xf0001000 size 8K dma {`,
	`    map buffer at 0 write;`,
	`  }`,
	`  region buffer size 16K;`,
	`  each i in 0 .. n {`,
	`    region code[i] size 4K at 0x100000 + i * 4K fill "s";`,
	`    region data[i] size 8K fill i;`,
	`    subject s[i] cpu i % 4 {`,
	`      map code[i] at 0x1000 exec;`,
	`      map data[i] at 0x10000 write;`,
	`      if i == 0 {`,
	`        map uart at 0x40000000 write;`,
	`        map buffer at 0x20000;`,
	`      }`,
	`      if i > 0 {`,
	`        fault tell s[0] vector i;`,
	`      }`,
	`    }`,
	`  }`,
	`  each i in 1 .. n {`,
	`    channel c[i] from s[i] to s[i - 1] vector 63;`,
	`  }`,
	`  irq rx from uart to s[0] vector 62 masked;`,
	`  plan day major 640 {`,
	`    each c in 0 .. 4 {`,
	`      cpu c {`,
	`        each i in 0 .. n {`,
	`          if i % 4 == c {`,
	`            run s[i] 10;`,
	`          }`,
	`        }`,
	`      }`,
	`    }`,
	`  }`,
	`  plan night major 100 {`,
	`    cpu 0 {`,
	`      run s[0] 50;`,
	`    }`,
	`  }`,
	`  master s[0];`,
	`  start day;`,
	`}`,
}

// family is the chapter's text with a number.
func family(n int) string {
	text := strings.Join(familyLines, "\n") + "\n"
	return strings.Replace(text, "N;", strconv.Itoa(n)+";", 1)
}

// TestFamily: P14.7: the text of each family, and of each number that none has.
func TestFamily(t *testing.T) {
	t.Parallel()
	for n := -3; n <= 70; n++ {
		if got := Family(n); string(got) != family(min(max(n, 1), 64)) {
			t.Errorf("P14.7: the family of %d:\n%s", n, got)
		}
	}
	if string(Family(math.MinInt)) != family(1) || string(Family(math.MaxInt)) != family(64) {
		t.Error("P14.7: the families of the least and the greatest number")
	}
	one := Family(3)
	clear(one)
	if string(Family(3)) != family(3) {
		t.Error("R2: two answers share memory")
	}
}

// TestFamilyBuilt: P14.8: each of them is accepted, and how many it has of what.
func TestFamilyBuilt(t *testing.T) {
	t.Parallel()
	for n := 1; n <= 64; n++ {
		b, err := Compile(Family(n))
		if err != nil {
			t.Errorf("P14.8: %d: %v", n, err)
			continue
		}
		p := b.Policy
		if len(p.Subjects) != n || len(p.Channels) != n-1 || len(p.Regions) != 2*n+1 || len(p.Plans) != 2 {
			t.Errorf("P14.8: %d: %+v", n, p)
		}
		// code lies where it says, behind it the buffer, behind that all data
		// and the image.
		buffer := uint64(0x100000 + n*4096)
		if b.Layout.Regions[0] != buffer || b.Layout.Image != buffer+uint64(4+2*n)*4096 {
			t.Errorf("P14.8: %d: %+v", n, b.Layout)
		}
		if len(b.Image) != b.Layout.Pages*api.Page {
			t.Errorf("P14.8: %d: %d bytes of %d pages", n, len(b.Image), b.Layout.Pages)
		}
	}
}

// TestFamilyOfTwo: P14.5: what the image of a family says.
func TestFamilyOfTwo(t *testing.T) {
	t.Parallel()
	b := compiled(t, family(2))
	i, why := Image(b.Policy, b.Layout)
	if why != api.OK {
		t.Fatal(why)
	}
	if i.Subjects[0] != (api.Tenant{To: -1}) || i.Subjects[1] != (api.Tenant{CPU: 1, Root: 5, Rule: api.ByVector, Vector: 1}) {
		t.Errorf("P14.5: the subjects: %+v", i.Subjects)
	}
	if i.Devices[0].Root != -1 || i.Devices[1].Root != 8 || len(i.Tables) != 5+3+3 {
		t.Errorf("P14.5: the devices: %+v, %d tables", i.Devices, len(i.Tables))
	}
	if i.Channels[0] != (api.Link{From: 1, Effect: api.ByVector, Vector: 63}) || i.Irqs[0] != (api.Link{Effect: api.ByVector, Vector: 62, Masked: true}) {
		t.Errorf("P14.5: the links: %+v, %+v", i.Channels, i.Irqs)
	}
	if i.Regions[1] != (api.Ground{At: 0x100000, Size: 4096, Text: "s"}) || i.Regions[4].Fill != 1 {
		t.Errorf("P14.5: the regions: %+v", i.Regions)
	}
	if told(i.Plans[0].Lanes) != "[[{Subject:0 Ticks:10} {Subject:-1 Ticks:630}] [{Subject:1 Ticks:10} {Subject:-1 Ticks:630}] [{Subject:-1 Ticks:640}] [{Subject:-1 Ticks:640}]]" {
		t.Errorf("P14.5: the plan: %+v", i.Plans[0].Lanes)
	}
}

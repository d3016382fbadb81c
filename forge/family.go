package forge

import (
	"strconv"

	"bulkhead/api"
)

// Family tells the text of the family of n subjects.
func Family(n int) []byte {
	n = min(max(n, 1), api.MaxSubjects)
	return []byte(familyHead + strconv.Itoa(n) + familyTail)
}

// The family's text ahead of its number, and behind it.
const (
	familyHead = `system family {
  const n = `
	familyTail = `;
  ram 0x100000 size 8M;
  device uart at 0xf0000000 size 4K;
  device disk at 0xf0001000 size 8K dma {
    map buffer at 0 write;
  }
  region buffer size 16K;
  each i in 0 .. n {
    region code[i] size 4K at 0x100000 + i * 4K fill "s";
    region data[i] size 8K fill i;
    subject s[i] cpu i % 4 {
      map code[i] at 0x1000 exec;
      map data[i] at 0x10000 write;
      if i == 0 {
        map uart at 0x40000000 write;
        map buffer at 0x20000;
      }
      if i > 0 {
        fault tell s[0] vector i;
      }
    }
  }
  each i in 1 .. n {
    channel c[i] from s[i] to s[i - 1] vector 63;
  }
  irq rx from uart to s[0] vector 62 masked;
  plan day major 640 {
    each c in 0 .. 4 {
      cpu c {
        each i in 0 .. n {
          if i % 4 == c {
            run s[i] 10;
          }
        }
      }
    }
  }
  plan night major 100 {
    cpu 0 {
      run s[0] 50;
    }
  }
  master s[0];
  start day;
}
`
)

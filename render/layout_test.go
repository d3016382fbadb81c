package render

import (
	"strings"
	"testing"

	"bulkhead/api"
	"bulkhead/syntax"
)

// everything is all of the grammar, in small texts.
var everything = []string{
	" # nothing\n\tsystem s { } # the end",
	"system s { const n = 1 + 2 * 3 ; assert n == 7 ; }",
	"system s { each i in 0 .. n { each j in i .. n { master m [ i ] [ j ] ; } ram i size 4K ; } }",
	"system s { if n < 2 { start a ; } else { if 1 { } use g ( ) ; } if 1 { } assert 2 ; }",
	"system s { group g ( ) { } group h ( x ) { use g ( ) ; if 1 { } } group k ( x , y , z ) { plan p [ x ] major y { } } }",
	"system s { use g ( ) ; use h ( 1 ) ; use k ( 1 | 2 ^ 3 & 4 << 5 >> 6 - 7 / 8 % 9 , ( 1 != 2 ) , a >= b ) ; }",
	"system s { ram 0x1000 size ( 1 <= 2 ) > ( 3 ) ; ram 1 size 2 ; }",
	"system s { device d at 1 size 2 ; device d [ 1 ] at 1 size 2 dma { } }",
	"system s { device d at 1 size 2 dma { map r at 1 ; map r at 1 write ; map r at 1 exec ; map r [ 1 ] at 1 write exec ; } }",
	"system s { device d at 1 size 2 dma { const c = 1 ; assert 1 ; each i in 1 .. 2 { map r at 3 ; } if 1 { map r at 1 ; } else { map r at 2 ; } } }",
	"system s { region r size 1 ; region r size 1 at 2 ; region r size 1 big ; region r size 1 wx ; region r size 1 fill 7 ; }",
	"system s { region r [ 1 ] size 1 fill \"text\" ; region r size 1 at 2 big wx fill 1 + 1 ; region r size 1 fill \"\" ; }",
	"system s { subject s cpu 0 { } subject s [ 0 ] cpu 1 stopped { map r at 1 write exec ; } }",
	"system s { subject s cpu 0 { fault stop ; fault reset ; fault tell s [ 1 ] vector 3 ; } }",
	"system s { subject s cpu 0 { const c = 1 ; assert 1 ; each i in 1 .. 2 { fault stop ; } if 1 { map r at 0 ; } else { fault stop ; } } }",
	"system s { channel c from a to b vector 1 ; channel c from a to b reset ; channel c from a to b stop ; }",
	"system s { channel c [ 1 ] from a [ 1 ] to b [ 1 ] over r [ 1 ] start ; channel c from a to b over r vector 1 ; }",
	"system s { irq q from d to s vector 1 ; irq q [ 1 ] from d [ 1 ] to s [ 1 ] vector 1 masked ; }",
	"system s { plan p major 9 { cpu 0 { run s 1 ; run s [ 1 ] ( 2 ) ; idle 3 ; } } }",
	"system s { plan p major 9 { cpu 0 { const c = 1 ; assert 1 ; each i in 1 .. 2 { idle 1 ; } if 1 { run s 1 ; } else { idle 1 ; } } } }",
	"system s { plan p major 9 { cpu 1 needs { need s 1 every 2 ; need s [ 1 ] 1 every 2 ; } } }",
	"system s { plan p major 9 { cpu 1 needs { const c = 1 ; assert 1 ; each i in 1 .. 2 { need s 1 every 2 ; } if 1 { } else { } } } }",
	"system s { plan p major 9 { const c = 1 ; assert 1 ; each i in 1 .. 2 { cpu i { } } if 1 { cpu 1 needs { } } else { } } }",
	"system s { master s [ 0 ] ; start p ; }",
}

// read reads a text that must be one.
func read(t *testing.T, src string) api.Tree {
	t.Helper()
	tree, place, why := syntax.Parse([]byte(src))
	if why != api.OK {
		t.Fatalf("%.300q: %v %v", src, place, why)
	}
	return tree
}

// printed prints a tree that must be one.
func printed(t *testing.T, tree api.Tree) string {
	t.Helper()
	text, why := Print(tree)
	if why != api.OK {
		t.Fatalf("P7.1: %v: %.300v", why, tree)
	}
	return string(text)
}

// lines holds the lines of a policy of one item against what they must be.
func lines(t *testing.T, src string, want ...string) {
	t.Helper()
	all := "system s {\n  " + strings.Join(want, "\n  ") + "\n}\n"
	if got := printed(t, read(t, "system s {"+src+"}")); got != all {
		t.Errorf("P7.1: %s:\n%s, want\n%s", src, got, all)
	}
}

func TestSystem(t *testing.T) {
	if got := printed(t, read(t, "#x\n system\tsystems{}")); got != "system systems {\n}\n" {
		t.Errorf("P7.1: %q", got)
	}
	if got := printed(t, read(t, "system s{region r size 4K*2 wx;}")); got != "system s {\n  region r size 4096 * 2 wx;\n}\n" {
		t.Errorf("P7.1: example 1: %q", got)
	}
}

// TestLines: P7.1 of each kind of item.
func TestLines(t *testing.T) {
	lines(t, "const\na=1;", "const a = 1;")
	lines(t, "assert(1);", "assert 1;")
	lines(t, "assert a==2;", "assert a == 2;")
	lines(t, "each i in 0..(a==b)==c{}", "each i in 0 .. (a == b) == c {", "}")
	lines(t, "each i in 0..1{assert i;assert 2;}", "each i in 0 .. 1 {", "  assert i;", "  assert 2;", "}")
	lines(t, "if 1{}", "if 1 {", "}")
	lines(t, "if 1{}else{}", "if 1 {", "} else {", "}")
	lines(t, "if 1{assert 2;}else{if 3{}else{assert 4;}assert 5;}assert 6;",
		"if 1 {", "  assert 2;", "} else {", "  if 3 {", "  } else {", "    assert 4;", "  }", "  assert 5;", "}", "assert 6;")
	lines(t, "group g(){}", "group g() {", "}")
	lines(t, "group g ( x ){use g ( ) ;}", "group g(x) {", "  use g();", "}")
	lines(t, "group g(x,y , x){}", "group g(x, y, x) {", "}")
	lines(t, "use g(1,(a==b)==c);", "use g(1, (a == b) == c);")
	lines(t, "use g((1+2)*3,(4+5)*6);", "use g((1 + 2) * 3, (4 + 5) * 6);")
	lines(t, "ram 1+2 size 0x10;", "ram 1 + 2 size 16;")
	lines(t, "device n at 1M size 2;", "device n at 1048576 size 2;")
	lines(t, "device n[1]at 1 size 2 dma{}", "device n[1] at 1 size 2 dma {", "}")
	lines(t, "device n at 1 size 2 dma{map r at 3 exec;}", "device n at 1 size 2 dma {", "  map r at 3 exec;", "}")
	lines(t, "region r[1][i+1]size 1;", "region r[1][i + 1] size 1;")
	lines(t, "region r[(1+2)*3] size(1)at(2)big wx fill(3)*4;", "region r[(1 + 2) * 3] size 1 at 2 big wx fill 3 * 4;")
	lines(t, "region r size 1 fill\"\\x61\\x00\\xFF\\\"\\\\\\n\\t;[(\";", `region r size 1 fill "a\x00\xff\"\\\n\t;[(";`)
	lines(t, `region r size 1 fill"";`, `region r size 1 fill "";`)
	lines(t, "subject s cpu 0{}", "subject s cpu 0 {", "}")
	lines(t, "subject s[0]cpu(1)stopped{map r[1]at 1 write exec;map q at 2;fault stop;fault reset;fault tell s[2]vector 3;}",
		"subject s[0] cpu 1 stopped {", "  map r[1] at 1 write exec;", "  map q at 2;", "  fault stop;", "  fault reset;", "  fault tell s[2] vector 3;", "}")
	lines(t, "channel c from a to b vector 1;", "channel c from a to b vector 1;")
	lines(t, "channel c[1]from a[2]to b[3]over r[4]vector 5;", "channel c[1] from a[2] to b[3] over r[4] vector 5;")
	lines(t, "channel c from a to b over r reset;channel c from a to b stop;channel c from a to b start;",
		"channel c from a to b over r reset;", "channel c from a to b stop;", "channel c from a to b start;")
	lines(t, "irq q from d to s vector 1;irq q from d to s vector 2 masked;", "irq q from d to s vector 1;", "irq q from d to s vector 2 masked;")
	lines(t, "plan p major 9{cpu 0{run s(1+2)*3;run s[1]2;idle 4;}cpu 1 needs{need s[1]1 every 2;}}",
		"plan p major 9 {", "  cpu 0 {", "    run s (1 + 2) * 3;", "    run s[1] 2;", "    idle 4;", "  }", "  cpu 1 needs {", "    need s[1] 1 every 2;", "  }", "}")
	lines(t, "master s[1];start p;", "master s[1];", "start p;")
}

// TestIntegers: P7.1: integers are told in decimal.
func TestIntegers(t *testing.T) {
	lines(t, "assert 0x0;assert 007;assert 0xffffffffffffffff;assert 18446744073709551615;assert 1K;assert 0x1M;",
		"assert 0;", "assert 7;", "assert 18446744073709551615;", "assert 18446744073709551615;", "assert 1024;", "assert 1048576;")
}

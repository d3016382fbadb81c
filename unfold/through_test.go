package unfold

import (
	"fmt"
	"strings"
	"testing"

	"bulkhead/api"
)

// TestRefusals: P8.1, item by item: which refusal, and at which byte.
func TestRefusals(t *testing.T) {
	t.Parallel()
	for _, c := range []struct {
		items string
		want  api.Errno
	}{
		// const
		{"const a = 1 ; const b = a ; assert b == 1 ;", api.OK},
		{"const a = 1 ; const @a = nobody ;", api.ErrTwice},
		{"const a = @a ;", api.ErrName},
		{"const a = 1 ; if 1 { const @a = 2 ; }", api.ErrTwice},
		{"const a = 1 ; subject q cpu 0 { const @a = 2 ; }", api.ErrTwice},
		{"if 1 { const a = 1 ; } const a = 2 ; assert a == 2 ;", api.OK},
		{"if 1 { const a = 1 ; } if 1 { const a = 2 ; assert a == 2 ; }", api.OK},
		{"if 1 { const a = 1 ; } assert @a ;", api.ErrName},
		{"assert @a ; const a = 1 ;", api.ErrName},
		{"if 1 { assert @a ; const a = 1 ; }", api.ErrName},
		{"const g = 1 ; group g ( ) { } use g ( ) ; assert g ;", api.OK},
		// assert
		{"@assert 0 ;", api.ErrAssert},
		{"assert 1 ; assert 18446744073709551615 ; @assert 1 == 2 ;", api.ErrAssert},
		{"assert @a ;", api.ErrName},
		// if
		{"if @a { }", api.ErrName},
		{"if 0 { ram q size q ; } else { ram @p size q ; }", api.ErrName},
		{"if 2 { ram @q size q ; } else { ram p size q ; }", api.ErrName},
		{"if 0 { ram q size q ; }", api.OK},
		{"if 0 { } else { const a = 1 ; } assert @a ;", api.ErrName},
		{"if 1 { const a = 1 ; } else { const a = 2 ; }", api.OK},
		// each
		{"const i = 1 ; each @i in nobody .. nobody { }", api.ErrTwice},
		{"each i in @i .. 1 { }", api.ErrName},
		{"each i in 0 .. @i { }", api.ErrName},
		{"each i in @a .. 1 / 0 { }", api.ErrName},
		{"each i in 3 .. 3 { ram q size q ; }", api.OK},
		{"each i in 4 .. 3 { ram q size q ; }", api.OK},
		{"each i in 18446744073709551615 .. 0 { ram q size q ; }", api.OK},
		{"each i in 18446744073709551614 .. 18446744073709551615 { assert i == 18446744073709551614 ; }", api.OK},
		{"each i in 0 .. 1 { const @i = 1 ; }", api.ErrTwice},
		{"each i in 0 .. 1 { each @i in 0 .. 0 { } }", api.ErrTwice},
		{"each i in 0 .. 1 { } each i in 0 .. 1 { } const i = 1 ;", api.OK},
		{"each i in 0 .. 1 { } assert @i ;", api.ErrName},
		{"each i in 0 .. 3 { const c = i ; assert c == i ; }", api.OK},
		{"each i in 0 .. 2 { if i == 1 { assert @c ; } const c = i ; }", api.ErrName},
		{"each i in 0 .. 2 { each j in i .. 2 { const c = i * j ; } }", api.OK},
		{"each i in 0 .. 3 { @assert i < 2 ; }", api.ErrAssert},
		{"@each i in 0 .. 18446744073709551615 { }", api.ErrMany},
		{"@each i in 0 .. 1 << 40 { }", api.ErrMany},
		{"each i in 1 .. 18446744073709551615 @+ 1 { }", api.ErrOver},
		// group
		{"group g ( ) { } group @g ( ) { }", api.ErrTwice},
		{"group g ( ) { } group @g ( a , a ) { }", api.ErrTwice},
		{"group g ( a , b , @a ) { }", api.ErrTwice},
		{"const a = 1 ; group g ( b , @a , b ) { }", api.ErrTwice},
		{"const a = 1 ; group g ( b , @b , a ) { }", api.ErrTwice},
		{"group g ( a ) { } const a = 1 ; use g ( a ) ;", api.OK},
		{"group g ( g ) { assert g == 7 ; } use g ( 7 ) ;", api.OK},
		{"group g ( ) { ram q size q ; assert 0 ; use h ( ) ; }", api.OK},
		{"group g ( a ) { } assert @a ;", api.ErrName},
		{"group g ( a ) { const @a = 1 ; } use g ( 1 ) ;", api.ErrTwice},
		{"group g ( a ) { each @a in 0 .. 1 { } } use g ( 1 ) ;", api.ErrTwice},
		{"group g ( a ) { } group h ( a ) { } const g = 1 ; const h = 2 ;", api.OK},
		// use
		{"use @h ( nobody ) ;", api.ErrName},
		{"use @g ( ) ; group g ( ) { }", api.ErrName},
		{"const g = 1 ; use @g ( ) ;", api.ErrName},
		{"group g ( a ) { } use @g ( ) ;", api.ErrCount},
		{"group g ( a ) { } use @g ( 1 , nobody ) ;", api.ErrCount},
		{"group g ( ) { } use @g ( nobody ) ;", api.ErrCount},
		{"group g ( a , b ) { } use g ( 1 , @b ) ;", api.ErrName},
		{"group g ( a , b ) { assert a == 1 ; assert b == 2 ; } use g ( 1 , 2 ) ;", api.OK},
		{"group g ( ) { use @g ( ) ; } use g ( ) ;", api.ErrName},
		{"group g ( ) { use @h ( ) ; } group h ( ) { } use g ( ) ;", api.ErrName},
		{"group h ( ) { } group g ( ) { use h ( ) ; if 1 { use h ( ) ; } } use g ( ) ;", api.OK},
		{"group h ( ) { use @g ( ) ; } group g ( ) { use h ( ) ; } use g ( ) ;", api.ErrName},
		{"group f ( ) { } group h ( ) { use f ( ) ; use @h ( ) ; } group g ( ) { use h ( ) ; } use g ( ) ;", api.ErrName},
		{"each i in 0 .. 2 { if 1 { use @g ( i ) ; } } group g ( a ) { }", api.ErrName},
		{"group g ( a ) { } each i in 0 .. 2 { if 1 { use g ( i ) ; } }", api.OK},
		{"group g ( ) { ram @k size k ; } const k = 1 ; use g ( ) ;", api.ErrName},
		{"const k = 1 ; group g ( ) { ram k size k ; } use g ( ) ;", api.OK},
		{"group g ( ) { ram @k size k ; } if 1 { const k = 1 ; use g ( ) ; }", api.ErrName},
		{"group g ( ) { ram @i size i ; } each i in 0 .. 1 { use g ( ) ; }", api.ErrName},
		{"group g ( ) { const k = 1 ; assert k == 1 ; } const k = 2 ; use g ( ) ; use g ( ) ;", api.OK},
		{"group g ( ) { const k = 1 ; } if 1 { const k = 2 ; use g ( ) ; assert k == 2 ; }", api.OK},
		{"group g ( ) { each k in 0 .. 2 { } } const k = 2 ; use g ( ) ;", api.OK},
		{"group g ( ) { const k = 1 ; } use g ( ) ; assert @k ;", api.ErrName},
		{"const k = 1 ; group g ( ) { const @k = 1 ; } use g ( ) ;", api.ErrTwice},
		{"group h ( ) { assert @a ; } group g ( a ) { use h ( ) ; } use g ( 1 ) ;", api.ErrName},
		{"group h ( a ) { assert a == 5 ; } group g ( a ) { use h ( a + 1 ) ; assert a == 4 ; } use g ( 4 ) ;", api.OK},
		{"group h ( ) { assert @k ; } const k = 1 ; group g ( ) { assert k ; use h ( ) ; } use g ( ) ;", api.ErrName},
	} {
		refused(t, "P8.1", c.items, c.want)
	}
}

// TestOrderWithinAnItem: P8.1: an item's names and expressions as they are
// written; each of them in turn is the first that is refused.
func TestOrderWithinAnItem(t *testing.T) {
	t.Parallel()
	for _, item := range []string{
		"ram ! size ! ;",
		"device d[!][!] at ! size ! ;",
		"device d[!] at ! size ! dma { map r[!] at ! write exec ; map r[!] at ! ; }",
		"region r[!][!] size ! at ! big wx fill ! ;",
		"region r[!] size ! fill ! ;",
		"subject u[!] cpu ! stopped { map r[!] at ! ; fault tell u[!] vector ! ; map r[!] at ! ; }",
		"channel c[!] from u[!] to u[!] over r[!] vector ! ;",
		"channel c[!] from u[!] to u[!] start ;",
		"irq q[!] from d[!] to u[!] vector ! masked ;",
		"plan p[!] major ! { cpu ! { run u[!] ! ; idle ! ; } cpu ! needs { need u[!] ! every ! ; } }",
		"master u[!][!][!] ;",
		"start p[!][!] ;",
		"const c = ! ;",
		"each i in ! .. ! { }",
		"if ! { assert ! ; } else { assert ! ; }",
		"use g ( ! , ! , ! ) ;",
		"use g ( 1 , 2 , 3 ) ; assert ! ;",
	} {
		holes := strings.Count(item, "!")
		for first := range holes {
			if strings.Contains(item, "else") && first == 2 {
				continue
			}
			text := "group g ( x , y , z ) { } " + item
			for i := range holes {
				text = strings.Replace(text, "!", []string{"1", "@nobody", "( 1 / 0 )"}[1+min(max(i-first, -1), 1)], 1)
			}
			refused(t, "P8.1", text, api.ErrName)
		}
		refused(t, "P8.1", "group g ( x , y , z ) { } "+strings.ReplaceAll(item, "!", "1"), api.OK)
	}
}

// TestCosts: P8.1: what each kind of item costs.
func TestCosts(t *testing.T) {
	t.Parallel()
	for items, want := range map[string]int{
		"":                                  0,
		"const a = 1 ;":                     2,
		"const a = 1 + 2 * 3 ;":             6,
		"const a = ( ( 1 ) ) ;":             2,
		"assert 1 == 1 ;":                   4,
		"if 0 { assert 1 ; }":               2,
		"if 1 { assert 1 ; }":               4,
		"if 1 { } else { assert 1 ; }":      2,
		"if 0 { } else { assert 1 ; }":      4,
		"if 1 + 1 { }":                      4,
		"each i in 0 .. 0 { assert 1 ; }":   3,
		"each i in 5 .. 4 { assert 1 ; }":   3,
		"each i in 0 .. 1 { assert 1 ; }":   3 + 1 + 2,
		"each i in 7 .. 17 { assert 1 ; }":  3 + 10 + 10*2,
		"each i in 0 + 0 .. 2 { }":          5 + 2,
		"group g ( ) { }":                   1,
		"group g ( a , b ) { assert 1 ; }":  1,
		"group g ( ) { } use g ( ) ;":       2,
		"ram 1 size 2 + 3 ;":                5,
		"device d at 1 size 2 ;":            3,
		"device d[1] at 1 size 2 ;":         4,
		"device d at 1 size 2 dma { }":      3,
		"region r[1][2 + 3] size 1 ;":       6,
		"region r size 1 at 2 fill 3 ;":     4,
		"region r size 1 fill \"\" ;":       2,
		"subject u[1] cpu 2 stopped { }":    3,
		"irq q[1] from d[2] to e vector 1;": 4,
		"plan p[1] major 2 { }":             3,
		"master u ;":                        1,
		"start u[1] ;":                      2,
		"master u[1][1][1] ;":               4,

		"group g ( a , b ) { assert a ; assert b ; } use g ( 1 , 2 + 3 ) ; use g ( 1 , 1 ) ;":                                      1 + 5 + 4 + 3 + 4,
		"group g ( ) { each i in 0 .. 2 { } } group h ( ) { use g ( ) ; use g ( ) ; } use h ( ) ;":                                 2 + 1 + 2*(1+3+2),
		"device d at 1 size 2 dma { map r[1] at 2 write exec ; map s at 1 ; }":                                                     3 + 3 + 2,
		"subject u cpu 2 { map r[1 + 1] at 2 ; fault stop ; fault reset ; fault tell u[0] vector 3 ; }":                            2 + 5 + 1 + 1 + 3,
		"channel c[1] from u[2] to v[3] over r[4] vector 5 + 6 ;":                                                                  8,
		"channel c[1] from u[2][3] to v reset ;":                                                                                   4,
		"plan p major 2 { cpu 0 { run u[1] 2 ; idle 3 ; } cpu 1 + 0 needs { need v 1 every 2 ; need u[1] 1 every 2 ; } }":          2 + 2 + 3 + 2 + 4 + 3 + 4,
		"const n = 3 ; each i in 0 .. n { each j in i .. n { assert i <= j ; } } if n == 3 { assert 1 ; } else { ram n size n ; }": 2 + 3 + 3 + 3*3 + 6 + 6*4 + 4 + 2,
	} {
		rounds := api.MaxWork - want - 3 // as many as are left to an each behind them
		refused(t, "P8.1", fmt.Sprintf("%s each zz in 0 .. %d { }", items, rounds), api.OK)
		refused(t, "P8.1", fmt.Sprintf("%s @each zz in 0 .. %d { }", items, rounds+1), api.ErrMany)
	}
}

// TestWorkRunsOut: P8.1: the place of ErrMany, when the cost is exceeded by one:
// at an item, whatever else would be refused of it; at an each's rounds, behind
// its numbers.
func TestWorkRunsOut(t *testing.T) {
	t.Parallel()
	for _, c := range []struct {
		items string
		left  int // of the work for the items
		want  api.Errno
	}{
		{"assert 1 ;", 2, api.OK},
		{"@assert 1 ;", 1, api.ErrMany},
		{"@assert nobody ;", 1, api.ErrMany},
		{"assert @nobody ;", 2, api.ErrName},
		{"@const a = 1 ;", 0, api.ErrMany},
		{"const a = 1 ; @const a = 2 ;", 3, api.ErrMany},
		{"const a = 1 ; const @a = 2 ;", 4, api.ErrTwice},
		{"@group g ( ) { }", 0, api.ErrMany},
		{"group g ( ) { } @group g ( ) { }", 1, api.ErrMany},
		{"@use h ( ) ;", 0, api.ErrMany},
		{"use @h ( ) ;", 1, api.ErrName},
		{"group g ( a ) { @assert a ; } use g ( 1 ) ;", 4, api.ErrMany},
		{"group g ( a ) { assert a ; } use g ( 1 ) ;", 5, api.OK},
		{"@each i in 0 .. nobody { }", 2, api.ErrMany},
		{"each i in 0 .. @nobody { }", 3, api.ErrName},
		{"@each i in 0 .. 4 { }", 6, api.ErrMany},
		{"each i in 0 .. 4 { }", 7, api.OK},
		{"each i in 0 .. 4 { @assert nobody ; }", 7, api.ErrMany},
		{"each i in 0 .. 4 { @assert 1 ; }", 7 + 3*2 + 1, api.ErrMany},
		{"each i in 0 .. 4 { assert 1 ; }", 7 + 4*2, api.OK},
		{"@each i in 0 .. 18446744073709551615 { }", 3, api.ErrMany},
		{"@each i in 0 .. 18446744073709551615 { }", 100, api.ErrMany},
		{"@ram 1 size 2 ;", 2, api.ErrMany},
		{"@region aaaaaaaaaaaaaaaaaaaaaaaaaaaaaaaa[18446744073709551615][18446744073709551615] size 2 ;", 3, api.ErrMany},
		{"region @aaaaaaaaaaaaaaaaaaaaaaaaaaaaaaaa[18446744073709551615][18446744073709551615] size 2 ;", 4, api.ErrLong},
		{"subject u cpu 0 { @map r[0] at 1 ; }", 4, api.ErrMany},
		{"subject u cpu 0 { map r[0] at 1 ; }", 5, api.OK},
		{"@channel c[0] from u[0] to u[0] over r[0] vector 0 ;", 5, api.ErrMany},
		{"channel c[0] from u[0] to u[0] over r[0] vector 0 ;", 6, api.OK},
	} {
		before := fmt.Sprintf("each zz in 0 .. %07d { } ", api.MaxWork-3-c.left)
		refused(t, "P8.1", before+c.items, c.want)
	}
	refused(t, "P8.1", "each zz in 0 .. 1048573 { }", api.OK)
	refused(t, "P8.1", "@each zz in 0 .. 1048574 { }", api.ErrMany)
}

// TestItemsRunOut: P8.1: each kind of declaration counts; the 4097th is refused
// behind its names and expressions.
func TestItemsRunOut(t *testing.T) {
	t.Parallel()
	before := func(n int) string { return fmt.Sprintf("each zz in 0 .. %d { start p[zz] ; } ", n) }
	for _, c := range []struct {
		outer, inner string // the inner one stands where the ! is
	}{
		{"!", "ram 0 size 0 ;"},
		{"!", "device d at 0 size 0 ;"},
		{"!", "device d at 0 size 0 dma { }"},
		{"!", "region r size 0 ;"},
		{"!", "subject u cpu 0 { }"},
		{"!", "channel c from u to v stop ;"},
		{"!", "irq i from d to u vector 0 ;"},
		{"!", "plan p major 0 { }"},
		{"!", "master u ;"},
		{"!", "start p ;"},
		{"device d at 0 size 0 dma { ! }", "map r at 0 ;"},
		{"subject u cpu 0 { ! }", "map r at 0 ;"},
		{"subject u cpu 0 { ! }", "fault stop ;"},
		{"plan p major 0 { ! }", "cpu 0 { }"},
		{"plan p major 0 { ! }", "cpu 0 needs { }"},
		{"plan p major 0 { cpu 0 { ! } }", "run u 0 ;"},
		{"plan p major 0 { cpu 0 { ! } }", "idle 0 ;"},
		{"plan p major 0 { cpu 0 needs { ! } }", "need u 0 every 0 ;"},
	} {
		outside := strings.Count(c.outer, "{")
		put := func(inner string) string { return strings.Replace(c.outer, "!", inner, 1) }
		refused(t, "P8.1", before(api.MaxItems-outside-1)+put(c.inner+" const b = 1 ;"), api.OK)
		refused(t, "P8.1", before(api.MaxItems-outside-1)+put(c.inner+" const b = 1 ; @"+c.inner), api.ErrMany)
		refused(t, "P8.1", before(api.MaxItems-outside)+put("@"+c.inner), api.ErrMany)
	}
	full := before(api.MaxItems)
	refused(t, "P8.1", full+"@ram 0 size 0 ;", api.ErrMany)
	refused(t, "P8.1", full+"ram 0 size @nobody ;", api.ErrName)
	refused(t, "P8.1", full+"region r[1 @/ 0] size nobody ;", api.ErrZero)
	refused(t, "P8.1", full+"region @aaaaaaaaaaaaaaaaaaaaaaaaaaaaaaaa[18446744073709551615][18446744073709551615] size 1 ;", api.ErrLong)
	refused(t, "P8.1", full+"@subject u cpu 0 { map r at nobody ; }", api.ErrMany)
	refused(t, "P8.1", full+"const a = 1 ; each i in 0 .. 2 { if i { } } group g ( ) { } use g ( ) ; assert @b ;", api.ErrName)
	refused(t, "P8.1", full+"group g ( ) { @ram 0 size 0 ; } use g ( ) ;", api.ErrMany)
	if p := unfolded(t, full); len(p.Starts) != api.MaxItems {
		t.Errorf("P8.1: %d, want %d", len(p.Starts), api.MaxItems)
	}
}

// TestNames: P8.2: names with their numbers; at most 64 bytes.
func TestNames(t *testing.T) {
	t.Parallel()
	word := strings.Repeat("a", api.MaxWord)
	p := unfolded(t, "const n = 7 ; region r size 0 ; region r[0] size 0 ; region r[1][0] size 0 ; region r[n * n][18446744073709551615][n] size 0 ; region "+word+" size 0 ;")
	for i, want := range []string{"r", "r.0", "r.1.0", "r.49.18446744073709551615.7", word} {
		if got := p.Regions[i].Name; got != want {
			t.Errorf("P8.2: %q, want %q", got, want)
		}
	}
	const (
		fits = "[18446744073709551615][1000000000]"  // 32 bytes of points and digits
		long = "[18446744073709551615][10000000000]" // one more
	)
	for _, item := range []string{
		"device ! at nobody size nobody ;", "region ! size nobody ;", "subject ! cpu nobody { }", "channel ! from a[nobody] to a stop ;", "channel a from ! to a[nobody] stop ;", "channel a from a to ! over a[nobody] stop ;", "channel a from a to b over ! vector nobody ;", "irq ! from a[nobody] to a vector 0 ;", "irq a from ! to a[nobody] vector 0 ;", "irq a from a to ! vector nobody ;", "plan ! major nobody { }", "master ! ; assert nobody ;", "start ! ; assert nobody ;", "device a at 0 size 0 dma { map ! at nobody ; }", "subject a cpu 0 { map ! at nobody ; }", "subject a cpu 0 { fault tell ! vector nobody ; }", "plan a major 0 { cpu 0 { run ! nobody ; } }", "plan a major 0 { cpu 0 needs { need ! nobody every 0 ; } }",
	} {
		refused(t, "P8.2", strings.Replace(strings.Replace(item, "nobody", "@nobody", 1), "!", word+fits, 1), api.ErrName)
		refused(t, "P8.2", strings.Replace(item, "!", "@"+word+long, 1), api.ErrLong)
		refused(t, "P8.2", strings.Replace(item, "!", word+"[0][0][@nobody]"+strings.Repeat("[0]", 80), 1), api.ErrName)
		refused(t, "P8.2", strings.Replace(item, "!", "@"+word+strings.Repeat("[0]", 17), 1), api.ErrLong)
		refused(t, "P8.2", strings.Replace(item, "!", word+long+"[1 @/ 0]", 1), api.ErrZero)
	}
	if p := unfolded(t, "master "+word+fits+" ; master a"+strings.Repeat("[9]", 31)+" ;"); p.Masters[0].Name != word+".18446744073709551615.1000000000" || p.Masters[1].Name != "a"+strings.Repeat(".9", 31) {
		t.Errorf("P8.2: %+v", p.Masters)
	}
}

// TestForm: P8.1: a tree that render refuses.
func TestForm(t *testing.T) {
	t.Parallel()
	good := read(t, system("ram 1 size 2 ; const a = 0 - 1 ;"))
	for name, tree := range map[string]api.Tree{
		"nothing":       {},
		"no name":       {Top: good.Top, Items: good.Items, Nodes: good.Nodes},
		"a node less":   {Pos: 4, Name: good.Name, Top: good.Top, Items: good.Items, Nodes: good.Nodes[:4]},
		"an item less":  {Pos: 4, Name: good.Name, Top: good.Top, Items: good.Items[:1], Nodes: good.Nodes},
		"an item twice": {Pos: 4, Name: good.Name, Top: []int{0, 0}, Items: good.Items, Nodes: good.Nodes},
		"an expression": {Pos: 4, Name: good.Name, Top: []int{0}, Items: []api.Item{{Kind: api.IAssert, Pos: 9}}},
		"a kind":        {Pos: 4, Name: good.Name, Top: []int{0}, Items: []api.Item{{Kind: 99, Pos: 9}}},
	} {
		if p, at, why := Unfold(tree); why != api.ErrForm || at != 0 || told(p) != told(api.Policy{}) {
			t.Errorf("P8.1: %s: %+v, %d, %v", name, p, at, why)
		}
	}
	if _, at, why := Unfold(good); why != api.ErrOver || at != len("system s { ram 1 size 2 ; const a = 0 ") {
		t.Errorf("P8.1: %d, %v", at, why)
	}
}

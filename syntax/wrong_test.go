package syntax

import (
	"strings"
	"testing"

	"bulkhead/api"
)

// tails are what may stand behind the place of a refusal.
var tails = []string{"", "\x00", " ", "\n", ";", "a", "0", "K", "=", ".", `"`, `\`, "}", "(((", "#", "\xff\xff", "\nsystem s { }"}

// wrong holds a text with an @ ahead of its first wrong byte, whatever stands
// behind it; with the @ at its end it is one that ends too early.
func wrong(t *testing.T, marked string) {
	t.Helper()
	at := strings.Index(marked, "@")
	src := marked[:at] + marked[at+1:]
	refusedAt(t, []byte(src), at, api.ErrSyntax)
	refusedAt(t, []byte("# (\n\n"+src), at+5, api.ErrSyntax)
	if at < len(src) {
		for _, tail := range tails {
			refusedAt(t, []byte(src[:at+1]+tail), at, api.ErrSyntax)
		}
		ended(t, src[:at])
	}
}

// ended holds that a text, or one that begins with it, is none for its end
// alone, if it is none.
func ended(t *testing.T, src string) {
	t.Helper()
	if _, place, why := Parse([]byte(src)); why != api.OK && (why != api.ErrSyntax || place.At != len(src)) {
		t.Errorf("P6.5: %q: %v %v, want OK or %d", src, place, why, len(src))
	}
}

func TestExamplesThatAreWrong(t *testing.T) {
	for _, s := range []string{"@", "system@", "system s { r@x", "system s { const in@ = 1 ; }"} {
		wrong(t, s)
	}
}

// TestEndsTooEarly: P6.1: every beginning of a policy's text is wrong at its
// length, as long as it is none itself.
func TestEndsTooEarly(t *testing.T) {
	for _, text := range everything {
		last := strings.LastIndex(text, "}")
		for at := range last {
			refusedAt(t, []byte(text[:at]), at, api.ErrSyntax)
		}
		for at := last + 1; at <= len(text); at++ {
			read(t, text[:at])
		}
	}
	for _, s := range []string{" @", "\n\n@", "#@", "# system s { }@", "s@", "system@", "system @", "system sys@", "system s { each@", "system s { each i in 1 .@", "system s { each i in 1.@", "system s { assert 0x@", "system s { assert 1 !@", `system s { region r size 1 fill "@`, `system s { region r size 1 fill "\@`, `system s { region r size 1 fill "\x@`, `system s { region r size 1 fill "\x1@`, `system s { region r size 1 fill "} # ;@`} {
		wrong(t, s)
	}
}

// TestWrongWords: P6.1: a word that can't stand is wrong where no word that can
// goes on as it does.
func TestWrongWords(t *testing.T) {
	for _, s := range []string{
		"@a", "@in", "@x", "s@size", "sys@ tem", "system@s", "system@_ s { }", "system@\"\"", "@System s { }", "s@",
		"system if@ { }", "system system@ { }", "system @1 { }", "system @{", "system s @s", "system s @[", "system s @;",
		"system s { @x", "system s { i@n ;", "system s { e@lse { }", "system s { ra@ ;", "system s { ram@s", "system s { re@set", "system s { region@s", "system s { s@ize", "system s { st@op",
		"system s { su@per", "system s { s@ystem", "system s { ma@p", "system s { ma@jor", "system s { mas@ked", "system s { @fault", "system s { @from", "system s { c@pu 1", "system s { con@St",
		"system s { const@x", "system s { const a @a", "system s { const a@[", "system s { const else@ = 1 ;", "system s { const each@", "system s { const a = size@ ;", "system s { const a = 1 @a", "system s { const a = a @a ;", "system s { const a = 1 @size 2", "system s { const a @; }",
		"system s { each i i@f 1", "system s { each i @o", "system s { each i in@t", "system s { each i @= 1", "system s { each in@ in 1",
		"system s { region r s@ubject", "system s { region r siz@", "system s { region r size 1 a@ssert", "system s { region r size 1 b@ug", "system s { region r size 1 w@rite", "system s { region r size 1 f@rom", "system s { region r size 1 big @at 2 ;", "system s { region r size 1 wx @big ;", "system s { region r size 1 fill 1 @wx ;", "system s { region r size 1 at 2 @at", "system s { region r size 1 big @big", "system s { region r size 1 fill 1 @fill",
		"system s { device d @size", "system s { device d at 1 s@top", "system s { device d at 1 size 2 d@evice", "system s { device d at 1 size 2 dma @; }", "system s { device d at 1 size 2 dma { } @;",
		"system s { subject s c@onst", "system s { subject s cpu 1 stop@", "system s { subject s cpu 1 st@art", "system s { subject s cpu 1 stop@ {",
		"system s { channel c f@ault", "system s { channel c from a t@ell", "system s { channel c from a to b o@f", "system s { channel c from a to b re@gion", "system s { channel c from a to b stop@ped", "system s { channel c from a to b sto@", "system s { channel c from a to b st@em", "system s { channel c from a to b over r @over", "system s { channel c from a to b vector 1 @reset", "system s { channel c from a to b @; }",
		"system s { irq q from d to s @over", "system s { irq q from d to s v@", "system s { irq q from d to s @reset", "system s { irq q from d to s vector 1 ma@p", "system s { irq q from d to s vector 1 masked @masked",
		"system s { plan p ma@ster", "system s { plan p major 1 @;", "system s { plan p major 1 { c@hannel", "system s { plan p major 1 { @run", "system s { plan p major 1 { cpu 0 need@ {", "system s { plan p major 1 { cpu 0 needs @need", "system s { plan p major 1 { cpu 0 { @need", "system s { plan p major 1 { cpu 0 needs { need@s", "system s { plan p major 1 { cpu 0 needs { @run", "system s { plan p major 1 { cpu 0 needs { i@dle", "system s { plan p major 1 { cpu 0 { id@", "system s { plan p major 1 { cpu 0 { i@n", "system s { plan p major 1 { cpu 0 needs { need s 1 e@xec", "system s { plan p major 1 { cpu 0 needs { need s 1 @;", "system s { plan p major 1 { cpu 0 { run s @;",
		"system s { subject s cpu 0 { ma@ster", "system s { subject s cpu 0 { @ram", "system s { subject s cpu 0 { fault @; ", "system s { subject s cpu 0 { fault s@ize", "system s { subject s cpu 0 { fault st@art", "system s { subject s cpu 0 { fault t@o", "system s { subject s cpu 0 { fault tell vector@", "system s { subject s cpu 0 { fault tell vector@ 1", "system s { subject s cpu 0 { map r at 1 exec @write ;", "system s { subject s cpu 0 { map r at 1 w@x", "system s { device d at 1 size 2 dma { @fault",
		"system s { if 1 { @group", "system s { group g ( ) { @group", "system s { each i in 1 .. 2 { @group", "system s { if 1 { } else@x", "system s { if 1 { } else { } e@l", "system s { if 1 { } else { } e@lse", "system s { if 1 { } else @in", "system s { if 1 { } e@very", "system s { if 1 { } else @if",
	} {
		wrong(t, s)
	}
}

// TestWrongSigns: P6.1: a sign that can't stand is wrong where no sign that can
// goes on as it does.
func TestWrongSigns(t *testing.T) {
	for _, s := range []string{
		"system s { @;", "system s { @{", "system s { }@}", "system s { @]", "system s { @)", "system s { @=", "system s { @.", "system s { @!",
		"system s { const a =@= 1 ;", "system s { const a = @= 1 ;", "system s { const a = 1 =@ 1 ;", "system s { const a = 1 =@", "system s { const a = 1 !@ = 1 ;", "system s { const a = 1 !@x", "system s { const a = 1 @.. 2", "system s { const a = 1 @, 2", "system s { const a = @+ 1", "system s { const a = 1 + @- 1", "system s { const a = ( @)",
		"system s { const a = 1 < 2 <@ 3", "system s { const a = 1 < 2 <@= 3", "system s { const a = 1 == 2 >@ 3", "system s { const a = 1 == 2 >@= 3", "system s { const a = 1 == 2 @== 3", "system s { const a = 1 == 2 @= 3", "system s { const a = 1 == 2 @!= 3", "system s { const a = 1 == 2 @!", "system s { const a = 1 < 2 <<@= 3", "system s { const a = 1 <<@< 3", "system s { const a = 1 <@> 3", "system s { const a = 1 <=@= 3", "system s { const a = 1 < @< 3", "system s { const a = 1 + 2 < 3 * 4 <@ ",
		"system s { const a = ( 1 < 2 <@ 3 )", "system s { const a = ( 1 @; ", "system s { const a = ( 1 @] ", "system s { const a = 1 @) ;", "system s { const a = 1 @} ;", "system s { const a = @; }", "system s { const a = 1 @}",
		"system s { ram 1 @; }", "system s { ram 1 size 2 @}", "system s { ram 1 @, 2",
		"system s { each i in 0 .@ . 3", "system s { each i in 0 .@ 3", "system s { each i in 0 ..@. 3", "system s { each i in 0 @, 3", "system s { each i in 0 .. 3 @;", "system s { each i in 0 .. 3 @..",
		"system s { master a[1@;", "system s { master a[@]", "system s { master a[1]@(", "system s { master a[1][@", "system s { master a @(", "system s { master a @,",
		"system s { use g @;", "system s { use g @[", "system s { use g ( @,", "system s { use g ( 1 , @)", "system s { use g ( 1 @;", "system s { use g ( ) @{", "system s { use g ( 1 @]", "system s { group g ( @1", "system s { group g ( a @[", "system s { group g ( a , @)", "system s { group g ( a @a", "system s { group g ( ) @;", "system s { group g @{",
		"system s { region r size 1 fill @; }", "system s { region r size 1 fill \"a\" @+ 1 ;", "system s { region r size 1 fill \"a\" @\"b\"", "system s { region r size 1 fill 1 + @\"a\"", "system s { region r size 1 fill 1 @\"a\"", "system s { region r size @\"a\"", "system s { @\"a\"", "@\"", "system @\"s\"", "@0", "@0x", "system @0x", "system s { @0x", "system s { master @0x",
		"system s { }@;", "system s { } @system t { }", "system s { } # x\n@x", "system s { } @0x", "system s { } @.", "system s { } @\"",
	} {
		wrong(t, s)
	}
}

// TestWrongLexemes: P6.1: where chapter 5 tells the wrong byte, and where the
// grammar does, ahead of it.
func TestWrongLexemes(t *testing.T) {
	const long = "abcdefghijklmnopqrstuvwxyz_ABC12"
	for _, s := range []string{
		"system s { ram 1844674407370955161@6 size", "system s { ram 12@a size", "system s { ram 0x@ size", "system s { ram 0x@K", "system s { ram 1K@2", "system s { ram 18014398509481984@K", "system s { ram 1@size", "system s { ram 0x1@size",
		"system " + long + "@x { }", "system s { master " + long + "@0", "system s { assert " + long + "@_", "@" + long + long, "system s { ra@" + long,
		"system s { region r size 1 fill \"@\x01\"", "system s { region r size 1 fill \"a\\@q\"", "system s { region r size 1 fill \"\\x@g", "system s { region r size 1 fill \"\\x1@\"", "system s { region r size 1 fill \"\\\"@\n", "system s { region r size 1 fill \"a\" ; @\"\n",
		"system s { @~", "system s { ram @~", "system s { ram 1@~", "system s { } @~", "@~", "@\x00", "system s@\xff", "system@~", "system s { assert in@~", "system s { ram 1 siz@~", "system s { @\\ }",
		// The grammar's comes first, however the lexeme goes on.
		"system s { ram @\"abc", "system s { ram @\"\\q", "system s { @18446744073709551616", "system s { master @12a", "system s { master a @!x", "system s { ram 1 @.. .x", "system s { @\"a\n", "system s { ram 1 @\"~\" size \"\x80",
		"system s { assert 1 # \" .\n @12", "system s { assert 1 ; # \"\n @.",
	} {
		wrong(t, s)
	}
}

// nested makes a text with n brackets open at its innermost byte.
func nested(n int, open, shut string) string {
	return "system s { assert " + strings.Repeat(open, n-1) + "1" + strings.Repeat(shut, n-1) + " ; }"
}

// TestDeep: P6.1: 32 may be open, the 33rd is refused at its own byte.
func TestDeep(t *testing.T) {
	read(t, nested(32, "(", ")"))
	for _, n := range []int{33, 34, 100, 100000} {
		refusedAt(t, []byte(nested(n, "(", ")")), 18+31, api.ErrDeep)
	}
	blocks := strings.Repeat("if 1 {\n", 31)
	read(t, "system s { "+blocks+strings.Repeat("}", 32))
	refusedAt(t, []byte("system s { "+blocks+"if 1 { "+strings.Repeat("}", 33)), 11+31*7+5, api.ErrDeep)
	refusedAt(t, []byte("system s { "+blocks+"use g ( ) ; "+strings.Repeat("}", 32)), 11+31*7+6, api.ErrDeep)
	refusedAt(t, []byte("system s { "+blocks+"master m[1] ; "+strings.Repeat("}", 32)), 11+31*7+8, api.ErrDeep)
	read(t, "system s { "+blocks+"master m ; "+strings.Repeat("}", 32))
	mixed := "system s { subject s cpu 0 { if 1 { each i in 0 .. 1 { map m[" + strings.Repeat("(1+", 27) + "1" + strings.Repeat(")", 27) + "] at 0 ; } } } }"
	read(t, mixed)
	refusedAt(t, []byte(strings.Replace(mixed, "(1+1)", "(1+(1))", 1)), strings.Index(mixed, "(1+1)")+3, api.ErrDeep)
}

// TestShutAgain: P6.1: what is closed is open no more; texts and comments open
// nothing.
func TestShutAgain(t *testing.T) {
	many := strings.Repeat("master m[(1)][2] ; if 1 { use g ( ) ; } else { } ", 100)
	read(t, "system s { "+many+" }")
	read(t, "system s { region r size 1 fill \""+strings.Repeat("{[(", 50)+"\" ; # "+strings.Repeat("{[(", 50)+"\n assert "+strings.Repeat("(", 31)+"1"+strings.Repeat(")", 31)+" ; }")
	flat := "system s { " + many + strings.Repeat("if 1 { ", 31)
	refusedAt(t, []byte(flat+"if 1 {"), len(flat)+5, api.ErrDeep)
	refusedAt(t, []byte("system s { assert "+strings.Repeat("(", 31)+"1 # "+strings.Repeat(")", 31)), 18+31+4+31, api.ErrSyntax)
}

// TestDeepOrWrong: P6.1: whichever comes first; behind it nothing matters.
func TestDeepOrWrong(t *testing.T) {
	ahead := "system s { assert " + strings.Repeat("(", 31)
	for _, tail := range append(tails, ";", "(", ") ; }", "~", "\"") {
		refusedAt(t, []byte(ahead+"("+tail), len(ahead), api.ErrDeep)
		refusedAt(t, []byte(ahead+"["+tail), len(ahead), api.ErrSyntax)
		refusedAt(t, []byte(ahead+"{"+tail), len(ahead), api.ErrSyntax)
		refusedAt(t, []byte(ahead+"~("+tail), len(ahead), api.ErrSyntax)
		refusedAt(t, []byte(ahead+"1 1(("+tail), len(ahead)+2, api.ErrSyntax)
		refusedAt(t, []byte(ahead+"a(("+tail), len(ahead)+1, api.ErrSyntax)
	}
	refusedAt(t, []byte(strings.Repeat("{", 100)), 0, api.ErrSyntax)
	refusedAt(t, []byte("system s {"+strings.Repeat("[", 100)), 10, api.ErrSyntax)
}

// TestLong: P6.1: one byte too many is told ahead of all else; a text of just
// so many is read.
func TestLong(t *testing.T) {
	const text = "system s { }"
	read(t, text+strings.Repeat(" ", api.MaxText-len(text)))
	read(t, "#"+strings.Repeat("x", api.MaxText-len(text)-2)+"\n"+text)
	items := strings.Repeat("master a;", (api.MaxText-len(text))/9)
	if tree := read(t, "system s {"+items+"}"); len(tree.Items) != len(items)/9 || len(tree.Top) != len(items)/9 {
		t.Errorf("P6.3: %d items", len(tree.Items))
	}
	sum := "system s{assert 1" + strings.Repeat("+1", 500000) + ";}"
	if tree := read(t, sum); len(tree.Nodes) != 1000001 {
		t.Errorf("P6.3: %d nodes", len(tree.Nodes))
	}
	for _, s := range []string{text + strings.Repeat(" ", api.MaxText+1-len(text)), strings.Repeat("(", api.MaxText+1), strings.Repeat("\n", api.MaxText*2), "~" + strings.Repeat("x", api.MaxText)} {
		refusedAt(t, []byte(s), 0, api.ErrLong)
	}
	for _, s := range []string{"system s { region r size 1 fill \"", "system s {", "#", "", "system s { assert 0x", "system s { each i in 0 .", "system s { assert 1 !"} {
		space := strings.Repeat(" ", api.MaxText-len(s))
		refusedAt(t, []byte(space+s), api.MaxText, api.ErrSyntax)
	}
	text1 := "system s { region r size 1 fill \""
	refusedAt(t, []byte(text1+strings.Repeat("a", api.MaxText-len(text1))), api.MaxText, api.ErrSyntax)
	refusedAt(t, []byte(text1+strings.Repeat("\\\"", (api.MaxText-len(text1))/2)), len(text1)+(api.MaxText-len(text1))/2*2, api.ErrSyntax)
	refusedAt(t, []byte("system s { \""+strings.Repeat("a", api.MaxText-12)), 11, api.ErrSyntax)
}

func TestNothing(t *testing.T) {
	refusedAt(t, nil, 0, api.ErrSyntax)
	refusedAt(t, []byte{}, 0, api.ErrSyntax)
}

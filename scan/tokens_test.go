package scan

import (
	"slices"
	"strings"
	"testing"

	"bulkhead/api"
)

// name, integer, text and plain make the lexemes that a test wants.
func name(word string, at, end int) api.Token {
	return api.Token{Kind: api.TName, S: word, At: at, End: end}
}

func integer(n uint64, at, end int) api.Token {
	return api.Token{Kind: api.TInt, N: n, At: at, End: end}
}

func text(s string, at, end int) api.Token {
	return api.Token{Kind: api.TText, S: s, At: at, End: end}
}

func plain(kind, at, end int) api.Token {
	return api.Token{Kind: kind, At: at, End: end}
}

// taken holds the lexemes of a text against those that it must have.
func taken(t *testing.T, src string, want ...api.Token) {
	t.Helper()
	l, at, why := Tokens([]byte(src))
	if why != api.OK || at != 0 {
		t.Errorf("P5.1: %.80q: %d, %v, want OK", src, at, why)
	} else if !slices.Equal(l, want) {
		t.Errorf("P5.1: %.80q: %v, want %v", src, l, want)
	}
}

// kind tells a reserved word's kind by its place in the chapter's list.
func kind(word string) int {
	return api.WSystem + slices.Index(strings.Fields(chapterWords), word)
}

// chapterWords and chapterSigns stand in the chapter's order.
const (
	chapterWords = "system const each in if else assert group use ram size device at dma region big wx fill subject cpu stopped map write exec fault stop reset tell vector channel from to over start irq masked plan major run idle needs need every master"
	chapterSigns = "{ } [ ] ( ) ; , .. = == != < <= > >= | ^ & << >> + - * / %"
)

func TestExamples(t *testing.T) {
	taken(t, "ram 0x1000 size 64K;", plain(kind("ram"), 0, 3), integer(4096, 4, 10), plain(kind("size"), 11, 15), integer(65536, 16, 19), plain(api.TSemi, 19, 20))
	taken(t, "a..b", name("a", 0, 1), plain(api.TDots, 1, 3), name("b", 3, 4))
	taken(t, "18446744073709551615", integer(1<<64-1, 0, 20))
	taken(t, "18014398509481983K", integer(1<<64-1024, 0, 18))
	taken(t, "<<=", plain(api.TShl, 0, 2), plain(api.TAssign, 2, 3))
	taken(t, "< <", plain(api.TLess, 0, 1), plain(api.TLess, 2, 3))
}

// TestNothing: P5.1: a text without lexemes.
func TestNothing(t *testing.T) {
	for _, src := range []string{"", " ", "\n", "\t\r\n ", "#", "#\n", "# a", "#\n#", "##", " # \x00\x80\xff\"\\.!", "#\r\n", "#a\r"} {
		taken(t, src)
	}
	if l, at, why := Tokens(nil); len(l) != 0 || at != 0 || why != api.OK {
		t.Errorf("P5.1: nil: %v %d %v", l, at, why)
	}
}

// TestBetween: P5.1: what stands between lexemes, ahead of them and behind them.
func TestBetween(t *testing.T) {
	for _, gap := range []string{" ", "\t", "\n", "\r", " \t\r\n", "#\n", "#a\n", " # \"b\" 0x\n ", "#\xff\x00\n#.\n", "#\r\n", "##\n"} {
		n := len(gap)
		taken(t, gap+"a", name("a", n, n+1))
		taken(t, "a"+gap, name("a", 0, 1))
		taken(t, "a"+gap+"b", name("a", 0, 1), name("b", n+1, n+2))
		taken(t, "1"+gap+"2", integer(1, 0, 1), integer(2, n+1, n+2))
		taken(t, "0x1"+gap+"x", integer(1, 0, 3), name("x", n+3, n+4))
		taken(t, "="+gap+"=", plain(api.TAssign, 0, 1), plain(api.TAssign, n+1, n+2))
		taken(t, `"x"`+gap+`"y"`, text("x", 0, 3), text("y", n+3, n+6))
	}
	taken(t, "a#b\rc\nd", name("a", 0, 1), name("d", 6, 7))
	taken(t, "a#b", name("a", 0, 1))
}

// TestTouching: P5.1: lexemes that need nothing between them.
func TestTouching(t *testing.T) {
	taken(t, `a"b"c`, name("a", 0, 1), text("b", 1, 4), name("c", 4, 5))
	taken(t, `1"2"3`, integer(1, 0, 1), text("2", 1, 4), integer(3, 4, 5))
	taken(t, `"1""2"`, text("1", 0, 3), text("2", 3, 6))
	taken(t, "r[0x1]", name("r", 0, 1), plain(api.TSquare, 1, 2), integer(1, 2, 5), plain(api.TUnsquare, 5, 6))
	taken(t, "0..0x1..2K", integer(0, 0, 1), plain(api.TDots, 1, 3), integer(1, 3, 6), plain(api.TDots, 6, 8), integer(2048, 8, 10))
	taken(t, "in=if", plain(kind("in"), 0, 2), plain(api.TAssign, 2, 3), plain(kind("if"), 3, 5))
}

func TestSigns(t *testing.T) {
	all := strings.Fields(chapterSigns)
	for i, s := range all {
		want := plain(api.TOpen+i, 0, len(s))
		taken(t, s, want)
		taken(t, s+"a", want, name("a", len(s), len(s)+1))
		taken(t, s+" 7", want, integer(7, len(s)+1, len(s)+2))
		taken(t, s+"#", want)
		for j, o := range all {
			want := []api.Token{want, plain(api.TOpen+j, len(s)+1, len(s)+1+len(o))}
			taken(t, s+" "+o, want...)
			want[1].At, want[1].End = want[1].At-1, want[1].End-1
			if len(s) == 2 || !slices.Contains(all, s+o[:1]) {
				taken(t, s+o, want...)
			}
		}
	}
	if len(all) != 26 || api.TOpen+len(all) != api.WSystem {
		t.Errorf("P5.1: %d signs", len(all))
	}
}

// TestLongestSign: P5.1: of several signs the longest, from the left.
func TestLongestSign(t *testing.T) {
	taken(t, "===", plain(api.TEqual, 0, 2), plain(api.TAssign, 2, 3))
	taken(t, "====", plain(api.TEqual, 0, 2), plain(api.TEqual, 2, 4))
	taken(t, "!==", plain(api.TUnlike, 0, 2), plain(api.TAssign, 2, 3))
	taken(t, "<<<", plain(api.TShl, 0, 2), plain(api.TLess, 2, 3))
	taken(t, "<<<=", plain(api.TShl, 0, 2), plain(api.TAtMost, 2, 4))
	taken(t, "<=<", plain(api.TAtMost, 0, 2), plain(api.TLess, 2, 3))
	taken(t, "=<", plain(api.TAssign, 0, 1), plain(api.TLess, 1, 2))
	taken(t, ">>=", plain(api.TShr, 0, 2), plain(api.TAssign, 2, 3))
	taken(t, ">=>", plain(api.TAtLeast, 0, 2), plain(api.TMore, 2, 3))
	taken(t, "<>", plain(api.TLess, 0, 1), plain(api.TMore, 1, 2))
	taken(t, "....", plain(api.TDots, 0, 2), plain(api.TDots, 2, 4))
}

func TestWords(t *testing.T) {
	for i, w := range strings.Fields(chapterWords) {
		taken(t, w, plain(api.WSystem+i, 0, len(w)))
		taken(t, w+";", plain(api.WSystem+i, 0, len(w)), plain(api.TSemi, len(w), len(w)+1))
		for _, other := range []string{w + "_", "_" + w, w + "0", w + "K", w + w, strings.ToUpper(w), strings.ToUpper(w[:1]) + w[1:]} {
			taken(t, other, name(other, 0, len(other)))
		}
	}
	const bytes = "abcdefghijklmnopqrstuvwxyzABCDEFGHIJKLMNOPQRSTUVWXYZ_0123456789"
	for i := range bytes {
		b := bytes[i : i+1]
		taken(t, "q"+b, name("q"+b, 0, 2))
		if i < 53 {
			taken(t, b, name(b, 0, 1))
			taken(t, strings.Repeat(b, api.MaxWord)+";", name(strings.Repeat(b, 32), 0, 32), plain(api.TSemi, 32, 33))
		}
	}
}

func TestIntegers(t *testing.T) {
	for s, n := range map[string]uint64{
		"0": 0, "00": 0, "9": 9, "10": 10, "007": 7, "0123456789": 123456789,
		"0x0": 0, "0x9": 9, "0xa": 10, "0xf": 15, "0xA": 10, "0xF": 15, "0x10": 16, "00001": 1,
		"0x0123456789abcdef": 0x123456789ABCDEF, "0xABCDEF": 0xABCDEF, "0xfFfF": 65535,
		"0K": 0, "0M": 0, "00M": 0, "1K": 1024, "1M": 1048576, "0x1K": 1024, "0xfM": 15 << 20, "010K": 10240, "3K": 3072,
		"18446744073709551614": 1<<64 - 2, "18446744073709551615": 1<<64 - 1,
		"000000000000000000000000018446744073709551615": 1<<64 - 1,
		"0xffffffffffffffff":                            1<<64 - 1,
		"0x0000000000000000000000ffffffffffffffff":      1<<64 - 1,
		"18014398509481983K":                            1<<64 - 1<<10,
		"0x3fffffffffffffK":                             1<<64 - 1<<10,
		"17592186044415M":                               1<<64 - 1<<20,
		"0xfffffffffffM":                                1<<64 - 1<<20,
		"000017592186044415M":                           1<<64 - 1<<20,
	} {
		taken(t, s, integer(n, 0, len(s)))
		taken(t, " "+s+";", integer(n, 1, len(s)+1), plain(api.TSemi, len(s)+1, len(s)+2))
	}
	zeros := strings.Repeat("0", 100000)
	taken(t, zeros, integer(0, 0, 100000))
	taken(t, "0x"+zeros+"1K", integer(1024, 0, 100004))
}

func TestTexts(t *testing.T) {
	for s, want := range map[string]string{
		``: "", `a`: "a", ` `: " ", `~`: "~", `# a`: "# a", `//`: "//", `'`: "'", `{[(`: "{[(",
		`\n`: "\n", `\t`: "\t", `\\`: `\`, `\"`: `"`, `\\n`: `\n`, `\\\"`: `\"`,
		`\x00`: "\x00", `\xff`: "\xff", `\xFf`: "\xff", `\x0a`: "\n", `\x22`: `"`, `\x5C`: `\`, `\x415`: "A5",
		`a\nb\tc\x7f\x80\xe2`: "a\nb\tc\x7f\x80\xe2", `xn`: "xn",
	} {
		taken(t, `"`+s+`"`, text(want, 0, len(s)+2))
		taken(t, `;"`+s+`";`, plain(api.TSemi, 0, 1), text(want, 1, len(s)+3), plain(api.TSemi, len(s)+3, len(s)+4))
	}
	for b := 32; b <= 126; b++ {
		if b != '"' && b != '\\' {
			taken(t, `"`+string(rune(b))+`"`, text(string(rune(b)), 0, 3))
		}
	}
	const small, great = "0123456789abcdef", "0123456789ABCDEF"
	for b := range 256 {
		for _, hex := range []string{small, great} {
			taken(t, `"\x`+hex[b/16:b/16+1]+hex[b%16:b%16+1]+`"`, text(string([]byte{byte(b)}), 0, 6))
		}
	}
}

// TestLength: P5.1: as long as may be, and one more, whatever the bytes are.
func TestLength(t *testing.T) {
	for _, b := range []byte{' ', ';', 'a', '0', '"', '#', '!', 0, 0xff} {
		src := make([]byte, api.MaxText+1)
		for i := range src {
			src[i] = b
		}
		if l, at, why := Tokens(src); len(l) != 0 || at != 0 || why != api.ErrLong {
			t.Errorf("P5.1: %d bytes of %q: %d %v", len(src), b, at, why)
		}
	}
	taken(t, strings.Repeat(" ", api.MaxText))
	taken(t, strings.Repeat("\n", api.MaxText-1)+"a", name("a", api.MaxText-1, api.MaxText))
	taken(t, "#"+strings.Repeat("\x00", api.MaxText-1))
	taken(t, strings.Repeat("0", api.MaxText), integer(0, 0, api.MaxText))
	inner := strings.Repeat("x", api.MaxText-2)
	taken(t, `"`+inner+`"`, text(inner, 0, api.MaxText))
	if l, at, why := Tokens([]byte(strings.Repeat(";", api.MaxText))); len(l) != api.MaxText || at != 0 || why != api.OK || l[api.MaxText-1] != plain(api.TSemi, api.MaxText-1, api.MaxText) {
		t.Errorf("P5.1: %d lexemes, %d, %v", len(l), at, why)
	}
}

// TestMemory: R2: what is handed in stays, its spare room too, and no answer
// shares memory with it or with another answer.
func TestMemory(t *testing.T) {
	const src = "abc \"d\\x41e\" 12 { # z\n}"
	room := []byte(src + "spare")
	given := room[:len(src)]
	first, _, _ := Tokens(given)
	second, _, _ := Tokens(given)
	if string(room) != src+"spare" {
		t.Errorf("R2: %q", room)
	}
	for i := range room {
		room[i] = 'q'
	}
	for i := range first[:cap(first)] {
		first[:cap(first)][i] = api.Token{Kind: -1}
	}
	want := []api.Token{name("abc", 0, 3), text("dAe", 4, 12), integer(12, 13, 15), plain(api.TOpen, 16, 17), plain(api.TShut, 22, 23)}
	if !slices.Equal(second, want) {
		t.Errorf("R2: %v, want %v", second, want)
	}
}

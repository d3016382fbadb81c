package scan

import (
	"math"
	"strconv"
	"strings"
	"testing"

	"bulkhead/api"
)

func TestReserved(t *testing.T) {
	for i, w := range strings.Fields(chapterWords) {
		if Reserved(w) != api.WSystem+i || Legal(w) || Named(w) || Named(w+".0") {
			t.Errorf("P5.3: %s: %d %v", w, Reserved(w), Legal(w))
		}
		for _, other := range []string{w + " ", " " + w, w + "\x00", w[1:], w[:len(w)-1] + "Z", strings.ToUpper(w), w + "." + w} {
			if other != "" && Reserved(other) != 0 {
				t.Errorf("P5.3: Reserved(%q): %d", other, Reserved(other))
			}
		}
	}
	for _, w := range []string{"", "a", "in if", "{", "0", "0x", "system\n", "\xff"} {
		if Reserved(w) != 0 {
			t.Errorf("P5.3: Reserved(%q): %d", w, Reserved(w))
		}
	}
}

func TestLegal(t *testing.T) {
	for _, w := range []string{"a", "z", "A", "Z", "_", "__", "a0", "_0", "System", "systems", "K", "M", "x", strings.Repeat("q", 32), strings.Repeat("_", 31) + "9"} {
		if !Legal(w) || !Named(w) {
			t.Errorf("P5.3: %q is a name", w)
		}
	}
	for _, w := range []string{"", "0", "9a", "0x1", "a-b", "a b", " a", "a ", "a\n", "#", "a#", "\"a\"", "a.0", ".", "\x00", "a\x00", "\x80", "a\xff", "\u00e9", "[", "`", "@", "a/", "a:", strings.Repeat("q", 33), strings.Repeat("q", 100000)} {
		if Legal(w) {
			t.Errorf("P5.3: %q is no name", w)
		}
	}
	for b := range 256 {
		s := string([]byte{byte(b)})
		letters := b >= 'a' && b <= 'z' || b >= 'A' && b <= 'Z' || b == '_'
		if Legal(s) != letters || Legal("q"+s) != (letters || b >= '0' && b <= '9') {
			t.Errorf("P5.3: Legal of byte %d", b)
		}
	}
}

func TestNamed(t *testing.T) {
	most := "a" + strings.Repeat(".1", 31) // 63 bytes
	for _, s := range []string{"a.0", "a.9", "a.10.0", "a.0.0.0", "_.1", "a9.9", "a.18446744073709551615", "a.18446744073709551614.18446744073709551615", most, most + "0", strings.Repeat("q", 32) + ".0", strings.Repeat("q", 32) + ".1234567890.12345678901234567890", strings.Repeat("q", 22) + ".18446744073709551615.18446744073709551615"} {
		if !Named(s) {
			t.Errorf("P5.3: %q is a flat name", s)
		}
	}
	for _, s := range []string{"", ".", "a.", "a..", "a..1", ".1", "a.1.", "a.01", "a.00", "a.0.00", "a.b", "a.1a", "a.1K", "a.0x1", "a.-1", "a.+1", "a. 1", "a.1 ", " a.1", "a .1", "a.1\n", "a,1", "a.1,", "in.1", "9.1", "1", "a.18446744073709551616", "a.20000000000000000000", "a.99999999999999999999", "a.184467440737095516150", "a.100000000000000000000000", "a.\xff", "a.\x00", "a.1:", "a.1/", most + "00", most + ".1", most + ".10", strings.Repeat("q", 33) + ".0", strings.Repeat("q", 32) + ".1" + strings.Repeat(".2", 16), strings.Repeat("q", 22) + ".18446744073709551616.1844674407370955161", strings.Repeat("a.1", 100000)} {
		if Named(s) {
			t.Errorf("P5.3: %q is no flat name", s)
		}
	}
}

// numbers are the powers of 2 and of 10, and those beside them.
func numbers() []uint64 {
	var l []uint64
	for i := range 64 {
		l = append(l, 1<<i-1, 1<<i, 1<<i+1)
	}
	for n := uint64(1); n <= math.MaxUint64/10; n *= 10 {
		l = append(l, n*10-1, n*10, n*10+1)
	}
	return append(l, math.MaxUint64, math.MaxUint64-1)
}

func TestNumber(t *testing.T) {
	for _, n := range numbers() {
		s := string(Number(n))
		if s != strconv.FormatUint(n, 10) {
			t.Errorf("P5.4: Number(%d): %s", n, s)
		}
		taken(t, s, integer(n, 0, len(s)))
		if !Named("a." + s) {
			t.Errorf("P5.3: a.%s is a flat name", s)
		}
	}
	first, second := Number(7), Number(7)
	first[0], first[:cap(first)][cap(first)-1] = 'x', 'x'
	if string(second) != "7" || string(Number(7)) != "7" {
		t.Errorf("R2: Number(7): %s, %s", second, Number(7))
	}
}

// spelling is how the chapter's list spells a byte.
func spelling(b byte) string {
	var all []string
	if b >= 32 && b <= 126 && b != '"' && b != '\\' {
		all = append(all, string(rune(b)))
	}
	for s, c := range map[string]byte{`\n`: 10, `\t`: 9, `\\`: 92, `\"`: 34} {
		if b == c {
			all = append(all, s)
		}
	}
	const digits = "0123456789abcdef"
	return append(all, `\x`+digits[b/16:b/16+1]+digits[b%16:b%16+1])[0]
}

func TestQuote(t *testing.T) {
	for given, want := range map[string]string{
		"": `""`, "\n\x00\"": `"\n\x00\""`, "a b": `"a b"`, "\\\t~\xff\x7f": `"\\\t~\xff\x7f"`, "# '": `"# '"`, "\r": `"\x0d"`, "\u00e9": `"\xc3\xa9"`, "\\n": `"\\n"`, "\xff\xfe": `"\xff\xfe"`,
	} {
		if got := string(Quote(given)); got != want {
			t.Errorf("P5.4: Quote(%q): %s, want %s", given, got, want)
		}
	}
	all, spelt := "", ""
	for b := range 256 {
		s, want := string([]byte{byte(b)}), spelling(byte(b))
		all, spelt = all+s, spelt+want
		if got := string(Quote(s)); got != `"`+want+`"` {
			t.Errorf("P5.4: Quote of byte %d: %s, want %s", b, got, want)
		}
	}
	if got := string(Quote(all)); got != `"`+spelt+`"` {
		t.Errorf("P5.4: Quote of all bytes: %s", got)
	}
	taken(t, string(Quote(all)), text(all, 0, len(spelt)+2))
	first, second := Quote(""), Quote("")
	first[0], first[:cap(first)][cap(first)-1] = 'x', 'x'
	if string(second) != `""` || string(Quote("")) != `""` {
		t.Errorf("R2: Quote: %s", second)
	}
}

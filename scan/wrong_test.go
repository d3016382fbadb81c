package scan

import (
	"strings"
	"testing"

	"bulkhead/api"
)

// refused holds a text against its first wrong byte.
func refused(t *testing.T, src string, want int) {
	t.Helper()
	if l, at, why := Tokens([]byte(src)); len(l) != 0 || at != want || why != api.ErrSyntax {
		t.Errorf("P5.2: %.80q: %v, %d, %v, want %d", src, l, at, why, want)
	}
}

// tails are what may stand behind the first wrong byte.
var tails = []string{"", "\x00", " ", "\n", ";", "a", "0", "K", `"`, `\`, "..", "=", "#", "\xff\xff", "\nsystem s { }", `n"`, `00"`}

// wrong holds a text against its first wrong byte, whatever stands behind it,
// and what stands ahead of it is begun well: the same bytes end too early.
func wrong(t *testing.T, src string, want int) {
	t.Helper()
	for _, tail := range tails {
		refused(t, src[:want+1]+tail, want)
		refused(t, "# \x80\n"+src[:want+1]+tail, want+4)
	}
	if _, at, why := Tokens([]byte(src[:want])); why == api.ErrSyntax && at != want {
		t.Errorf("P5.2: %.80q: %d, want %d or OK", src[:want], at, want)
	}
}

func TestExamplesThatAreWrong(t *testing.T) {
	wrong(t, "a . b", 3)
	wrong(t, "18446744073709551616", 19)
	wrong(t, "18014398509481984K", 17)
	refused(t, "0x", 2)
	wrong(t, "0xK", 2)
	wrong(t, "12a", 2)
	wrong(t, "1K2", 2)
	wrong(t, `"a\q"`, 3)
	refused(t, `"a`, 2)
	refused(t, "!", 1)
	wrong(t, "!x", 1)
}

// TestEnds: P5.2: a text that ends within a lexeme is wrong at its length.
func TestEnds(t *testing.T) {
	for _, src := range []string{`"`, `"a`, `"\`, `"\x`, `"\x4`, `"\x41`, `"\n`, `"\"`, `"\\\`, `"#`, "0x", ".", "!", "...", "!=!", "a.", "1.", `"".`, `"" "`} {
		for _, ahead := range []string{"", " ", "a ", "1;", "#\n", `"x" `} {
			refused(t, ahead+src, len(ahead+src))
		}
	}
	refused(t, `"`+strings.Repeat("a", api.MaxText-1), api.MaxText)
	refused(t, strings.Repeat(" ", api.MaxText-1)+".", api.MaxText)
	refused(t, strings.Repeat(" ", api.MaxText-2)+"0x", api.MaxText)
}

func TestWrongWords(t *testing.T) {
	const full = "abcdefghijklmnopqrstuvwxyz_ABC12"
	for _, next := range "az_AZ09KM" {
		wrong(t, full+string(next), 32)
		wrong(t, full+string(next)+full, 32)
		wrong(t, "system "+full+string(next), 39)
		wrong(t, strings.Repeat("_", 32)+string(next), 32)
	}
	wrong(t, strings.Repeat("system", 6), 32)
}

func TestWrongIntegers(t *testing.T) {
	for src, at := range map[string]int{
		"0X1": 1, "00x1": 2, "1x1": 1, "0xx": 2, "0xg": 2, "0x_": 2, "0xM": 2, "0x ": 2, "0x\n": 2, "0x#": 2, "0x;": 2, "0x.": 2, "0x\x80": 2,
		"0x1x": 3, "0xfg": 3, "0x1_": 3, "0x1KK": 4, "0x1KM": 4, "0xaKf": 4,
		"1k": 1, "1m": 1, "1G": 1, "1_": 1, "1a": 1, "0a": 1, "1MM": 2, "1KM": 2, "1M0": 2, "1K_": 2, "1Kx": 2, "9z": 1,
		"18446744073709551620":   19,
		"99999999999999999999":   19,
		"184467440737095516150":  20,
		"0018446744073709551616": 21,
		"18446744073709551615K":  20,
		"18446744073709551615M":  20,
		"18446744073709551615a":  20,
		"18446744073709551616K":  19,
		"17592186044416M":        14,
		"18014398509481983M":     17,
		"18014398509481983KK":    18,
		"0x10000000000000000":    18,
		"0xffffffffffffffff0":    18,
		"0x00ffffffffffffffff0":  20,
		"0x40000000000000K":      16,
		"0x100000000000M":        14,
		"0x3fffffffffffffM":      16,
	} {
		wrong(t, src, at)
		wrong(t, "a "+src, at+2)
	}
	wrong(t, strings.Repeat("9", 1000), 19)
	wrong(t, "0x"+strings.Repeat("f", 1000), 18)
}

func TestWrongTexts(t *testing.T) {
	for b := range 256 {
		s := string([]byte{byte(b)})
		if b < 32 || b > 126 {
			wrong(t, `"`+s, 1)
			wrong(t, `"ab\n`+s, 5)
		}
		if !strings.Contains(`nt\"x`, s) {
			wrong(t, `"\`+s, 2)
			wrong(t, `"a\n\`+s, 5)
		}
		if !strings.Contains("0123456789abcdefABCDEF", s) {
			wrong(t, `"\x`+s, 3)
			wrong(t, `"\xf`+s, 4)
		}
	}
}

// TestWrongBytes: P5.2: a byte that begins no lexeme; and what may stand behind
// a point and an exclamation mark.
func TestWrongBytes(t *testing.T) {
	const begin = " \t\n\r#\"{}[]();,.=!<>|^&+-*/%_"
	for b := range 256 {
		s := string([]byte{byte(b)})
		letters := b >= '0' && b <= '9' || b >= 'a' && b <= 'z' || b >= 'A' && b <= 'Z'
		if !letters && !strings.Contains(begin, s) {
			for _, ahead := range []string{"", " ", "a", "1", `"a"`, ";", "<", "#\n", "1K", "in"} {
				wrong(t, ahead+s, len(ahead))
			}
		}
		if b != '.' {
			wrong(t, "."+s, 1)
			wrong(t, "a."+s, 2)
			wrong(t, "..."+s, 3)
		}
		if b != '=' {
			wrong(t, "!"+s, 1)
			wrong(t, "=!"+s, 2)
		}
	}
}

// TestTail: P5.6: as long as all of it is no longer than a text may be.
func TestTail(t *testing.T) {
	src := make([]byte, api.MaxText)
	copy(src, "system ~")
	refused(t, string(src), 7)
	refused(t, strings.Repeat("\n", api.MaxText-1)+"~", api.MaxText-1)
	if _, at, why := Tokens(append(src, 0)); at != 0 || why != api.ErrLong {
		t.Errorf("P5.1: %d, %v", at, why)
	}
}

package scan

import (
	"bytes"
	"math/big"
	"math/rand"
	"regexp"
	"slices"
	"strings"
	"testing"

	"bulkhead/api"
)

// The chapter once more, in patterns.
var (
	gapPattern     = regexp.MustCompile(`^(?:[ \t\n\r]|#[^\n]*(?:\n|$))+`)
	wordPattern    = regexp.MustCompile(`^[a-zA-Z0-9_]+`)
	integerPattern = regexp.MustCompile(`^(0x)?([0-9a-fA-F]+)([KM]?)$`)
	textPattern    = regexp.MustCompile(`^"((?:[ !#-\[\]-~]|\\[nt\\"]|\\x[0-9a-fA-F]{2})*)"`)
	signPattern    = regexp.MustCompile(`^(?:\.\.|==|!=|<=|>=|<<|>>|[{}\[\]();,=<>|^&+\-*/%])`)
	escapePattern  = regexp.MustCompile(`\\(?:x..|.)`)
)

// row tells the lexemes of a text, or false if it is no row of lexemes.
func row(src []byte) ([]api.Token, bool) {
	var out []api.Token
	for at := 0; at < len(src); {
		rest := src[at:]
		if gap := gapPattern.Find(rest); gap != nil {
			at += len(gap)
			continue
		}
		x, size, ok := one(rest)
		if !ok {
			return nil, false
		}
		x.At, x.End = at, at+size
		at += size
		out = append(out, x)
	}
	return out, true
}

// one tells the lexeme with which a text begins, and how long it is.
func one(rest []byte) (api.Token, int, bool) {
	if run := string(wordPattern.Find(rest)); run != "" {
		x, ok := ofWordBytes(run)
		return x, len(run), ok
	}
	if s := textPattern.FindSubmatch(rest); s != nil {
		meant := escapePattern.ReplaceAllFunc(s[1], meaning)
		return api.Token{Kind: api.TText, S: string(meant)}, len(s[0]), true
	}
	s := string(signPattern.Find(rest))
	return api.Token{Kind: api.TOpen + slices.Index(strings.Fields(chapterSigns), s)}, len(s), s != ""
}

// ofWordBytes tells what a run of word bytes is.
func ofWordBytes(run string) (api.Token, bool) {
	if i := slices.Index(strings.Fields(chapterWords), run); i >= 0 {
		return api.Token{Kind: api.WSystem + i}, true
	}
	if run[0] > '9' {
		return api.Token{Kind: api.TName, S: run}, len(run) <= 32
	}
	s := integerPattern.FindStringSubmatch(run)
	if s == nil {
		return api.Token{}, false
	}
	base := 10
	if s[1] != "" {
		base = 16
	}
	n, ok := new(big.Int).SetString(s[2], base)
	if !ok {
		return api.Token{}, false
	}
	n.Lsh(n, map[string]uint{"": 0, "K": 10, "M": 20}[s[3]])
	return api.Token{Kind: api.TInt, N: n.Uint64()}, n.BitLen() <= 64
}

// meaning tells the byte that an escape stands for.
func meaning(escape []byte) []byte {
	switch escape[1] {
	case 'n':
		return []byte{10}
	case 't':
		return []byte{9}
	case 'x':
		n, _ := new(big.Int).SetString(string(escape[2:]), 16)
		return []byte{byte(n.Uint64())}
	}
	return escape[1:]
}

// begun tells whether some row begins with these bytes: where any does, one of
// these ends completes them.
func begun(src []byte) bool {
	for _, end := range []string{"", `"`, `n"`, `00"`, `0"`, "0", ".", "="} {
		if _, ok := row(append(bytes.Clone(src), end...)); ok {
			return true
		}
	}
	return false
}

// answer tells what Tokens must answer, by the chapter's own words.
func answer(src []byte) ([]api.Token, int, api.Errno) {
	if l, ok := row(src); ok {
		return l, 0, api.OK
	}
	for p := range src {
		if !begun(src[:p+1]) {
			return nil, p, api.ErrSyntax
		}
	}
	return nil, len(src), api.ErrSyntax
}

// same holds Tokens against the model.
func same(t *testing.T, src []byte) ([]api.Token, int, api.Errno) {
	t.Helper()
	was := bytes.Clone(src)
	l, at, why := Tokens(src)
	want, wantAt, wantWhy := answer(src)
	if !slices.Equal(l, want) || at != wantAt || why != wantWhy {
		t.Fatalf("%q: %v %d %v, want %v %d %v", src, l, at, why, want, wantAt, wantWhy)
	}
	if !bytes.Equal(src, was) {
		t.Fatalf("R2: %q was %q", src, was)
	}
	return l, at, why
}

// TestShortTexts: P5.1, P5.2 of all texts of these bytes up to a length.
func TestShortTexts(t *testing.T) {
	for _, c := range []struct {
		bytes string
		most  int
	}{
		{"01fgxKM_.=!<\"\\n# \n\x80", 3},
		{"0xaKM;", 5},
		{"\"\\nxf\x7f", 5},
		{".=!<> ", 5},
	} {
		var grow func(src []byte)
		grow = func(src []byte) {
			same(t, src)
			for i := 0; i < len(c.bytes) && len(src) < c.most; i++ {
				grow(append(bytes.Clone(src), c.bytes[i]))
			}
		}
		grow(nil)
	}
}

// pieces are what a text at random is put together of.
var pieces = []string{
	"a", "in", "system", "need", "needs", "Q_9", "q234567890123456789012345678901", "0", "0x", "0xF", "7", "1", "K", "M", "18446744073709551615", "1844674407370955161", "18014398509481983", "17592186044415", "0xffffffffffffffff", "000",
	`"`, `"a"`, `"\n\t\\\"\x4f"`, `\`, `\x`, `\xe`, `"#"`, "n", "x",
	"{", "}", "[", "]", "(", ")", ";", ",", ".", "..", "=", "!", "!=", "<", ">", "<<", "|", "^", "&", "+", "-", "*", "/", "%",
	" ", " ", " ", "\t", "\n", "\r", "#", "# x\n", "#\x00\xff\n", "~", "\x00", "\x7f", "\x80", "\xc3\xa9",
}

// atRandom makes a text of a few pieces.
func atRandom(r *rand.Rand) []byte {
	var src []byte
	for range 1 + r.Intn(9) {
		src = append(src, pieces[r.Intn(len(pieces))]...)
		if r.Intn(3) == 0 {
			src = append(src, ' ')
		}
	}
	return src
}

// TestTextsAtRandom: P5.1, P5.2; of those that are taken P5.5, of those that
// are refused P5.6.
func TestTextsAtRandom(t *testing.T) {
	r := rand.New(rand.NewSource(5))
	taken, refused := 0, 0
	for range 20000 {
		src := atRandom(r)
		l, at, why := same(t, src)
		if why == api.OK {
			taken++
			together(t, src, l)
			continue
		}
		refused++
		if at < len(src) {
			tail := append(bytes.Clone(src[:at+1]), atRandom(r)...)
			if l, p, e := Tokens(tail); len(l) != 0 || p != at || e != api.ErrSyntax {
				t.Fatalf("P5.6: %q: %v %d %v, want %d", tail, l, p, e, at)
			}
		}
	}
	if taken < 2000 || refused < 2000 {
		t.Errorf("%d taken, %d refused: too few to tell", taken, refused)
	}
}

// together holds P5.5 of a text's lexemes.
func together(t *testing.T, src []byte, l []api.Token) {
	t.Helper()
	var spaced []byte
	end := 0
	for i, x := range l {
		if gap := src[end:x.At]; len(gap) != len(gapPattern.Find(gap)) {
			t.Fatalf("P5.5: %q: %q belongs to no lexeme", src, gap)
		}
		end = x.End
		if i > 0 {
			spaced = append(spaced, ' ')
		}
		spaced = append(spaced, src[x.At:x.End]...)
	}
	if gap := src[end:]; len(gap) != len(gapPattern.Find(gap)) {
		t.Fatalf("P5.5: %q: %q belongs to no lexeme", src, gap)
	}
	again, _, why := Tokens(spaced)
	if why != api.OK || len(again) != len(l) {
		t.Fatalf("P5.5: %q: %v %v", spaced, again, why)
	}
	for i, x := range again {
		if x.Kind != l[i].Kind || x.N != l[i].N || x.S != l[i].S {
			t.Fatalf("P5.5: %q: lexeme %d: %v, want %v", spaced, i, x, l[i])
		}
	}
}

// TestSpellingsAtRandom: P5.5: numbers and texts, spelt and read again.
func TestSpellingsAtRandom(t *testing.T) {
	r := rand.New(rand.NewSource(55))
	for range 5000 {
		n := r.Uint64() >> r.Intn(64)
		s := Number(n)
		if l, _, why := Tokens(s); why != api.OK || len(l) != 1 || l[0] != integer(n, 0, len(s)) {
			t.Fatalf("P5.5: %s: %v %v", s, l, why)
		}
		b := make([]byte, r.Intn(40))
		r.Read(b)
		q := Quote(string(b))
		if l, _, why := Tokens(q); why != api.OK || len(l) != 1 || l[0] != text(string(b), 0, len(q)) {
			t.Fatalf("P5.5: %s: %v %v", q, l, why)
		}
	}
}

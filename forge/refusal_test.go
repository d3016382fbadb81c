package forge

import (
	"errors"
	"strings"
	"testing"

	"bulkhead/api"
)

const endless = api.MaxText + 1

// longName is a name that has 65 bytes with its index.
var longName = strings.Repeat("a", 32) + "[1][1234567890][1234567890][12345678]"

// TestReadRefuses: P14.1: the classes, their places, their order.
func TestReadRefuses(t *testing.T) {
	t.Parallel()
	for _, c := range []struct {
		src   string
		class int
		why   api.Errno
	}{
		{"", Syntax, api.ErrSyntax},
		{"system@", Syntax, api.ErrSyntax},
		{"\n\nsystem s {\n\tram 0 size 4K@}", Syntax, api.ErrSyntax},
		{"system s { } @x", Syntax, api.ErrSyntax},
		{"system s { const a = " + strings.Repeat("(", 31) + "@(", Syntax, api.ErrDeep},
		{"system s { region r size 4K; region r size 8K; }@}", Syntax, api.ErrSyntax},
		{strings.Repeat("\x00", endless), TooLong, api.ErrLong},
		{strings.Repeat("\n", endless), TooLong, api.ErrLong},
		{of("ram 0 size 64K;") + strings.Repeat(" ", endless), TooLong, api.ErrLong},
		{"system s {\n region r size 4K @- 8K;\n}", IllFormed, api.ErrOver},
		{"system s { ram 1 @/ 0 size 4K; }", IllFormed, api.ErrZero},
		{"system s { @assert 0; }", IllFormed, api.ErrAssert},
		{"system s { ram @q size 4K; }", IllFormed, api.ErrName},
		{"system s { group g ( ) { } use @g ( 1 ); }", IllFormed, api.ErrCount},
		{"system s { const a = 1; const @a = 1; }", IllFormed, api.ErrTwice},
		{"system s { region @" + longName + " size 4K; }", IllFormed, api.ErrLong},
		{"system s { @each i in 0 .. 1 << 30 { } }", IllFormed, api.ErrMany},
		{"system s { region r size 4K; @region r size 8K; }", IllFormed, api.ErrTwice},
		{"system a { plan p major 1 { } @start q; }", IllFormed, api.ErrName},
		{"#\n @system s { }", IllFormed, api.ErrStart},
		{"system s {\n ram 0 size 64K;\n\tram 64K size 4K;\n\t@ram 4K size 4K; plan p major 1 { } start p; }", IllFormed, api.ErrOverlap},
		{of("each i in 0 .. 8 { ram 64K * i size 4K; } @ram 1M size 4K;"), IllFormed, api.ErrMany},
		{of("subject a cpu 0 {\n map b at 0;\n}\n @region b size 64M + 4K;"), IllFormed, api.ErrSize},
	} {
		holdRead(t, c.src, c.class, c.why)
	}
}

// TestOrder: P14.1, P14.2: of several refusals the first in order is told.
func TestOrder(t *testing.T) {
	t.Parallel()
	space, form, sums := "region g size 8K;", "region r size 4K; @region r size 4K;", "assert 1 @/ 0;"
	holdCompile(t, "@"+of("ram 0 size 8K; "+space), NoSpace, api.ErrSpace)
	holdRead(t, of(space+form), IllFormed, api.ErrTwice)
	holdRead(t, of(space+strings.Replace(form, "@", "", 1)+sums), IllFormed, api.ErrZero)
	wrong := of(space+strings.Replace(form, "@", "", 1)+strings.Replace(sums, "@", "", 1)) + "@;"
	holdRead(t, wrong, Syntax, api.ErrSyntax)
	holdRead(t, strings.Replace(wrong, "@", "", 1)+strings.Repeat(" ", endless), TooLong, api.ErrLong)
}

// TestNoSpace: P14.2: the region that finds no room, or the image.
func TestNoSpace(t *testing.T) {
	t.Parallel()
	for _, src := range []string{
		"@" + of(""),
		"# none\n  @" + of("ram 0 size 4K; region r size 4K;"),
		of("\n ram 0 size 64M;\n region r size 4K;\n @region g size 64M;"),
		of("ram 0 size 64M;\n @region g size 64M; region r size 64K; region f size 4K at 32M;"),
		of("ram 4K size 2M; region r size 4K; each i in 0 .. 2 {\n  @region b[i] size 2M big; }"),
		"@" + of("ram 0 size 8K; subject a cpu 0 { }"+" region r size 4K;"),
	} {
		holdCompile(t, src, NoSpace, api.ErrSpace)
		text, _ := marked(src)
		if p, err := Read([]byte(text)); err != nil || p.Name != "s" {
			t.Errorf("P14.1: %q: %v", src, err)
		}
	}
}

// TestLongest: P14.1: a text of just MaxText bytes is read.
func TestLongest(t *testing.T) {
	t.Parallel()
	src := of("ram 0 size 64K;")
	for _, n := range []int{api.MaxText - 1, api.MaxText} {
		text := src + strings.Repeat("\n", n-len(src))
		if p, err := Read([]byte(text)); err != nil || len(p.Rams) != 1 {
			t.Errorf("P14.1: %d bytes: %v", n, err)
		}
		if b, err := Compile([]byte(text)); err != nil || len(b.Image) != api.Page {
			t.Errorf("P14.2: %d bytes: %v", n, err)
		}
	}
	all := strings.Repeat("\n", api.MaxText)
	holdRead(t, all+"@", Syntax, api.ErrSyntax)
}

// TestNewRefusals: P14.3: each refusal is a new one.
func TestNewRefusals(t *testing.T) {
	t.Parallel()
	for _, src := range []string{"", of(""), of("start q;"), strings.Repeat(" ", endless)} {
		for _, call := range []func([]byte) error{
			func(b []byte) error { _, err := Read(b); return err },
			func(b []byte) error { _, err := Compile(b); return err },
		} {
			var one, two *Refusal
			if !errors.As(call([]byte(src)), &one) {
				continue // Read takes what finds no room.
			}
			was := *one
			*one = Refusal{}
			if !errors.As(call([]byte(src)), &two) || one == two || *two != was {
				t.Errorf("P14.3: %.50q: %+v, then %+v", src, was, two)
			}
		}
	}
	if (&Refusal{}).Error() == "" {
		t.Error("R8: a refusal without a class has no text")
	}
	if TooLong != 1 || Syntax != 2 || IllFormed != 3 || NoSpace != 4 {
		t.Error("the classes' numbers")
	}
}

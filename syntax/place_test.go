package syntax

import (
	"bytes"
	"math"
	"strings"
	"testing"

	"bulkhead/api"
)

func TestAt(t *testing.T) {
	for _, src := range []string{"", "a", "\n", "\n\n\n", "ab\ncd\n", "a\r\nb\tc\n\n", "\u00e9\n\x80\xff\nx", strings.Repeat("x", 300) + "\n" + strings.Repeat("\n", 300)} {
		whole := append([]byte(src), "\n\n\n"...)
		for at := range len(src) + 1 {
			if p := At(whole[:len(src)], at); p != placeOf(whole, at) {
				t.Errorf("P6.2: %.80q, %d: %v, want %v", src, at, p, placeOf(whole, at))
			}
		}
		for _, at := range []int{-1, -2, math.MinInt} {
			if p := At([]byte(src), at); p != (api.Place{At: 0, Line: 1, Column: 1}) {
				t.Errorf("P6.2: %.80q, %d: %v", src, at, p)
			}
		}
		for _, at := range []int{len(src) + 1, len(src) + 2, math.MaxInt} {
			if p := At(whole[:len(src)], at); p != placeOf(whole, len(src)) {
				t.Errorf("P6.2: %.80q, %d: %v, want %v", src, at, p, placeOf(whole, len(src)))
			}
		}
		if string(whole) != src+"\n\n\n" {
			t.Errorf("R2: %q was changed", src)
		}
	}
	if p := At(nil, 5); p != (api.Place{At: 0, Line: 1, Column: 1}) {
		t.Errorf("P6.2: of nothing: %v", p)
	}
}

// TestAtOfLongTexts: P6.2: At knows no limit of a text's length.
func TestAtOfLongTexts(t *testing.T) {
	src := bytes.Repeat([]byte("0123456\n"), api.MaxText/2)
	for _, at := range []int{0, 7, 8, api.MaxText, api.MaxText + 1, len(src) - 1, len(src)} {
		if p := At(src, at); p != (api.Place{At: at, Line: 1 + at/8, Column: 1 + at%8}) {
			t.Errorf("P6.2: %d: %v", at, p)
		}
	}
}

// TestPlaces: P6.1, P6.2: Parse's places are At's.
func TestPlaces(t *testing.T) {
	for src, want := range map[string]api.Place{
		"":                            {At: 0, Line: 1, Column: 1},
		"\n\n":                        {At: 2, Line: 3, Column: 1},
		"system\ns {\n  rx":           {At: 14, Line: 3, Column: 4},
		"system s {\n\n":              {At: 12, Line: 3, Column: 1},
		"# \u00e9\nsystem s { \u00e9": {At: 16, Line: 2, Column: 12},
	} {
		if _, place, why := Parse([]byte(src)); place != want || why != api.ErrSyntax || place != At([]byte(src), place.At) {
			t.Errorf("P6.2: %q: %v %v, want %v", src, place, why, want)
		}
	}
}

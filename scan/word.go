package scan

import (
	"strings"

	"bulkhead/api"
)

// reserved are the reserved words in the order of their kinds, from api.WSystem on.
var reserved = [...]string{
	"system", "const", "each", "in", "if", "else", "assert", "group", "use",
	"ram", "size", "device", "at", "dma", "region", "big", "wx", "fill",
	"subject", "cpu", "stopped", "map", "write", "exec", "fault", "stop", "reset", "tell", "vector",
	"channel", "from", "to", "over", "start", "irq", "masked",
	"plan", "major", "run", "idle", "needs", "need", "every", "master",
}

// Reserved tells the kind of a reserved word.
func Reserved(word string) int {
	for i := range reserved {
		if reserved[i] == word {
			return api.WSystem + i
		}
	}
	return 0
}

// Legal tells whether a word is a name.
func Legal(word string) bool {
	if word == "" || len(word) > api.MaxWord || class(word[0]) != letter {
		return false
	}
	for i := range len(word) {
		if !isWord(word[i]) {
			return false
		}
	}
	return Reserved(word) == 0
}

// Named tells whether a text is a flat name.
func Named(name string) bool {
	if len(name) > api.MaxName {
		return false
	}
	word, rest, point := strings.Cut(name, ".")
	if !Legal(word) {
		return false
	}
	for point {
		var index string
		index, rest, point = strings.Cut(rest, ".")
		if !decimal(index) {
			return false
		}
	}
	return true
}

// decimal tells whether a text is a number as Number spells it.
func decimal(text string) bool {
	if text == "" || text[0] == '0' && text != "0" {
		return false
	}
	n, fits := uint64(0), true
	for i := 0; i < len(text) && fits; i++ {
		if class(text[i]) != digit {
			return false
		}
		n, fits = more(n, 10, value(text[i]))
	}
	return fits
}

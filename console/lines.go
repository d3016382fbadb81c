package console

import (
	"iter"
	"strings"
)

// lines are a text's lines with their numbers. Behind the last newline stands one
// only if there is something.
func lines(text string) iter.Seq2[int, string] {
	return func(yield func(int, string) bool) {
		rest := text
		for n := 1; rest != ""; n++ {
			var line string
			line, rest, _ = strings.Cut(rest, "\n")
			if !yield(n, line) {
				return
			}
		}
	}
}

// words are a line's words, its comment left out. They are pieces of the line: a
// rune that no encoding has is as it was.
func words(line string) []string {
	var list []string
	const between = -1
	from, end := between, len(line)
	for at, r := range line {
		if r == '#' {
			end = at
			break
		}
		switch {
		case !blank(r) && from == between:
			from = at
		case blank(r) && from != between:
			list = append(list, line[from:at])
			from = between
		}
	}
	if from != between {
		list = append(list, line[from:end])
	}
	return list
}

func blank(r rune) bool { return r == ' ' || r == '\t' || r == '\r' }

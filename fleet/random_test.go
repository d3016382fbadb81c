package fleet

import (
	"bytes"
	"math/rand"
	"strconv"
	"strings"
	"testing"

	"bulkhead/api"
)

// pick is one of a list.
func pick[T any](r *rand.Rand, list ...T) T { return list[r.Intn(len(list))] }

// someLine is a line of a script over a Family, a step most often.
func someLine(r *rand.Rand, subjects int) string {
	who := "s." + strconv.Itoa(r.Intn(subjects))
	at := pick(r, "0x1000", "0x10000", "0x10ffc", "0x20000", "0x5000", "0x40000000", "0x40000fff", "0")
	width := strconv.Itoa(1 << r.Intn(4))
	value := strconv.FormatUint(r.Uint64()>>r.Intn(64), 10)
	return pick(r,
		"tick "+pick(r, "1", "9", "10", "640", value),
		"write uart "+pick(r, "0", "0xfff", "8")+" "+width+" "+value,
		"dma disk load "+pick(r, "0", "0x3fff", "0x1000")+" "+width,
		"dma disk store "+pick(r, "0", "0x3fff", "0x1000")+" "+width+" "+value,
		"irq rx",
		"do "+who+" load "+at+" "+width,
		"do "+who+" fetch "+at+" "+width,
		"do "+who+" store "+at+" "+width+" "+value,
		"do "+who+" signal c."+strconv.Itoa(1+r.Intn(subjects)),
		"do "+who+" poll "+pick(r, "0", "1", "62", "63", "64"),
		"do "+who+" wait",
		"do "+who+" arm "+pick(r, "0", "1", "5")+" "+pick(r, "0", "63", "64"),
		"do "+who+" status",
		"do "+who+" switch "+pick(r, "day", "night"),
		"do "+who+" unmask rx",
		"# remark",
	)
}

func someScript(r *rand.Rand, subjects int) []byte {
	var lines []string
	for range r.Intn(30) {
		lines = append(lines, someLine(r, subjects))
	}
	return []byte(strings.Join(lines, "\n"))
}

// somePolicy is a Family's text, with a byte changed now and then.
func somePolicy(r *rand.Rand, subjects int) []byte {
	text := []byte(family(subjects))
	if r.Intn(3) == 0 {
		text[r.Intn(len(text))] = pick(r, []byte(" ;}0a#\"\n")...)
	}
	return text
}

// W9: together as alone.
func TestRandomJobs(t *testing.T) {
	r := rand.New(rand.NewSource(20))
	said := map[string]int{}
	for range 12 {
		f := begin(t, 1+r.Intn(api.MaxWorkers))
		var met []Job
		for range 3 {
			var jobs []Job
			for range r.Intn(40) {
				n := 1 + r.Intn(5)
				j := Job{Policy: somePolicy(r, n), Script: someScript(r, n)}
				if len(met) > 0 && r.Intn(4) == 0 {
					j.Policy = pick(r, met...).Policy
				}
				jobs, met = append(jobs, j), append(met, j)
			}
			want := alone(jobs)
			holdServe(t, f, jobs, want)
			holdCounts(t, f, unlike(met...), len(met))
			for _, out := range want {
				for line := range bytes.Lines(out) {
					said[strings.Fields(string(line))[0]]++
				}
			}
		}
	}
	for _, word := range []string{"class", "built", "script", "ok", "fault", "refused"} {
		if said[word] < 20 {
			t.Errorf("W9: %q was said %d times", word, said[word])
		}
	}
}

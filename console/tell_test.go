package console

import (
	"fmt"
	"math"
	"testing"

	"bulkhead/api"
)

// says is what the chapter says of a result.
func says(s api.Step, r api.Result) string {
	type form struct{ kind, access int }
	valued := map[form]bool{
		{api.Access, api.Load}: true, {api.Access, api.Fetch}: true, {api.Dma, api.Load}: true,
	}
	for access := range 6 {
		valued[form{api.Poll, access - 1}], valued[form{api.Wait, access - 1}] = true, true
	}
	faults := map[api.Errno]bool{40: true, 41: true, 43: true, 44: true}
	switch {
	case r.Why == api.OK && valued[form{s.Kind, s.Access}]:
		return fmt.Sprintf("ok %#x", r.Value)
	case r.Why == api.OK && s.Kind == api.Status:
		return fmt.Sprintf("ok plan %d left %d clock %d", r.Value, r.At, r.Clock)
	case r.Why == api.OK:
		return "ok"
	case faults[r.Why]:
		return fmt.Sprintf("fault %d at %#x", int(r.Why), r.At)
	}
	return fmt.Sprintf("refused %d", int(r.Why))
}

func TestTellAll(t *testing.T) {
	numbers := []api.Result{{}, {Value: 1, At: 2, Clock: 3}, {Value: 1<<64 - 1, At: 1 << 63, Clock: 1<<64 - 1}, {Value: 0xabcdef, At: 0xfedcba, Clock: 10}}
	for kind := -1; kind < 15; kind++ {
		for access := -1; access < 5; access++ {
			for why := api.Errno(-2); why < 200; why++ {
				for _, r := range numbers {
					// The step's own numbers are not told.
					s := api.Step{Kind: kind, Access: access, Subject: 5, Number: 6, At: 7, Width: 8, Value: 9}
					r.Why = why
					if got := Tell(s, r); got != says(s, r) {
						t.Fatalf("P19.3: %+v, %+v: %q, want %q", s, r, got, says(s, r))
					}
				}
			}
		}
	}
}

func TestTellByHand(t *testing.T) {
	for _, c := range []struct {
		s    api.Step
		r    api.Result
		want string
	}{
		{api.Step{Kind: api.Poll}, api.Result{}, "ok 0x0"},
		{api.Step{Kind: api.Wait}, api.Result{Value: 1 << 63}, "ok 0x8000000000000000"},
		{api.Step{Kind: api.Access, Access: api.Fetch}, api.Result{Value: 0x73}, "ok 0x73"},
		{api.Step{Kind: api.Access, Access: api.Store}, api.Result{Value: 1}, "ok"},
		{api.Step{Kind: api.Access}, api.Result{Value: 1}, "ok"},
		{api.Step{Kind: api.Dma, Access: api.Load}, api.Result{Value: 0xab}, "ok 0xab"},
		{api.Step{Kind: api.Dma, Access: api.Store}, api.Result{Value: 0xab}, "ok"},
		{api.Step{Kind: api.Dma, Access: api.Fetch}, api.Result{Value: 0xab}, "ok"},
		{api.Step{Kind: api.Tick}, api.Result{Value: 1, At: 2, Clock: 3}, "ok"},
		{api.Step{Kind: api.Status}, api.Result{Value: 1, At: 50, Clock: 1<<64 - 1}, "ok plan 1 left 50 clock 18446744073709551615"},
		{api.Step{Kind: api.Status}, api.Result{Why: api.ErrTurn, Clock: 3}, "refused 161"},
		{api.Step{Kind: api.Dma, Access: api.Store}, api.Result{Why: api.ErrWrite, At: 0x20000}, "fault 43 at 0x20000"},
		{api.Step{Kind: api.Access, Access: api.Fetch}, api.Result{Why: api.ErrExec}, "fault 44 at 0x0"},
		{api.Step{Kind: api.Tick}, api.Result{Why: api.ErrAbsent, At: 1}, "fault 41 at 0x1"},
		{api.Step{Kind: api.Access, Access: api.Load}, api.Result{Why: api.ErrTable, At: 1}, "refused 42"},
		{api.Step{}, api.Result{}, "ok"},
		{api.Step{Kind: math.MaxInt, Access: math.MinInt}, api.Result{Why: math.MaxInt}, "refused 9223372036854775807"},
		{api.Step{Kind: math.MinInt}, api.Result{Why: math.MinInt}, "refused -9223372036854775808"},
	} {
		if got := Tell(c.s, c.r); got != c.want {
			t.Errorf("P19.3: %+v, %+v: %q, want %q", c.s, c.r, got, c.want)
		}
	}
}

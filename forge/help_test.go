package forge

import (
	"errors"
	"fmt"
	"reflect"
	"slices"
	"strings"
	"testing"

	"bulkhead/api"
)

// whole has something of all that a policy may have, and hardly anything in
// the order in which it is named.
const whole = `# all of it
system whole {
	ram 0x200000 size 4M; ram 0x100000 size 1M; ram 0x8000000 size 64K;
	device d at 0xf0000000 size 8K dma { map q at 0x5000 write; map h at 0x40000000; map q at 0; }
	device e at 0xf0100000 size 1M;
	device f at 0xf0300000 size 4K dma { map t at (1 << 39) - 4K; }
	region q size 8K at 0x8001000;
	region r size 12K fill 0xfe;
	region h size 2M big wx;
	region t size 4K fill "text\n";
	region z size 8K fill "";
	region o size 4K;
	subject a cpu 0 {
		map r at 0x30000 write; map e at 0x40000000 write; map q at 0x1000;
		map h at 6M write exec; map q at 0x3000 exec;
		fault tell c[1] vector 63;
	}
	subject b cpu 3 stopped { fault reset; map o at 0x8000; map t at 0; }
	subject c[1] cpu 0 { map o at 0x7fff000 write; fault stop; }
	subject n cpu 1 { }
	channel v from b to a vector 5;
	channel w from c[1] to b over o start;
	channel x from a to n stop;
	channel y from n to c[1] reset;
	irq i from e to b vector 9;
	irq j from d to a vector 0 masked;
	plan p major 12 {
		cpu 3 { idle 2; run b 3; }
		cpu 0 needs { need a 1 every 3; need c[1] 2 every 4; }
		cpu 1 { }
	}
	plan z major 65536 { cpu 0 { run a 1; run a 2; run c[1] 65533; } }
	plan y major 1 { }
	master n; start z;
}`

// flat is the policy of a text that is taken.
func flat(t testing.TB, src string) api.Policy {
	t.Helper()
	p, err := Read([]byte(src))
	if err != nil {
		t.Fatalf("%.300q: %v", src, err)
	}
	return p
}

// compiled is what comes of a text that is taken.
func compiled(t testing.TB, src string) Built {
	t.Helper()
	b, err := Compile([]byte(src))
	if err != nil {
		t.Fatalf("%.300q: %v", src, err)
	}
	return b
}

// of is a text with one plan, and these lines.
func of(lines string) string { return "system s { " + lines + " plan p major 1 { } start p; }" }

// told tells all of a thing; nil and empty lists alike.
func told(x any) string { return fmt.Sprintf("%+v", x) }

// samePolicy, sameBuilt and sameImage tell whether two say the same: by words
// only if need be, since these are long.
func samePolicy(a, b api.Policy) bool { return reflect.DeepEqual(a, b) || told(a) == told(b) }

func sameBuilt(a, b Built) bool {
	return string(a.Image) == string(b.Image) && told(a.Layout) == told(b.Layout) && samePolicy(a.Policy, b.Policy)
}

func sameImage(a, b api.Image) bool {
	if !slices.Equal(a.Tables, b.Tables) {
		return false
	}
	a.Tables, b.Tables = nil, nil
	return told(a) == told(b)
}

// copyOf is a copy that shares no list.
func copyOf[T any](x T) T { return deep(reflect.ValueOf(x)).Interface().(T) }

func deep(v reflect.Value) reflect.Value {
	out := reflect.New(v.Type()).Elem()
	switch v.Kind() {
	case reflect.Struct:
		for i := range v.NumField() {
			out.Field(i).Set(deep(v.Field(i)))
		}
	case reflect.Slice:
		if v.IsNil() {
			return out
		}
		out.Set(reflect.MakeSlice(v.Type(), v.Len(), v.Len()))
		for i := range v.Len() {
			out.Index(i).Set(deep(v.Index(i)))
		}
	default:
		out.Set(v)
	}
	return out
}

// setPlaces gives each declaration of a policy a place.
func setPlaces(p *api.Policy, place func() int) { placeAll(reflect.ValueOf(p).Elem(), place) }

func placeAll(v reflect.Value, place func() int) {
	switch v.Kind() {
	case reflect.Struct:
		v.FieldByName("Pos").SetInt(int64(place()))
		for i := range v.NumField() {
			placeAll(v.Field(i), place)
		}
	case reflect.Slice:
		for i := range v.Len() {
			placeAll(v.Index(i), place)
		}
	}
}

// marked is a text without its @, and the place at which that stood.
func marked(src string) (string, api.Place) {
	at := strings.Index(src, "@")
	if at < 0 {
		at = 0
	}
	text := strings.Replace(src, "@", "", 1)
	lines := strings.Split(text[:at], "\n")
	return text, api.Place{At: at, Line: len(lines), Column: len(lines[len(lines)-1]) + 1}
}

// holdError holds an error against the refusal that it must be.
func holdError(t *testing.T, where string, err error, want Refusal) {
	t.Helper()
	var r *Refusal
	if !errors.As(err, &r) || *r != want {
		t.Errorf("%s: %+v, want %+v", where, err, want)
		return
	}
	if !errors.Is(err, want.Why) || r.Unwrap() != want.Why {
		t.Errorf("P14.3: %s: the number is not found in %v", where, err)
	}
	if errors.Is(err, api.ErrArg) || errors.Is(err, api.OK) {
		t.Errorf("P14.3: %s: another number is found in %v", where, err)
	}
	if err.Error() == "" {
		t.Errorf("R8: %s: no text", where)
	}
}

// holdRead holds Read and Compile of a text, which both refuse alike.
func holdRead(t *testing.T, src string, class int, why api.Errno) {
	t.Helper()
	text, place := marked(src)
	want := Refusal{Class: class, Place: place, Why: why}
	p, err := Read([]byte(text))
	holdError(t, fmt.Sprintf("P14.1: Read of %.120q", src), err, want)
	if told(p) != told(api.Policy{}) {
		t.Errorf("P14.3: %.120q: beside a refusal %+v", src, p)
	}
	holdCompile(t, src, class, why)
}

// holdCompile holds Compile of a text that is refused.
func holdCompile(t *testing.T, src string, class int, why api.Errno) {
	t.Helper()
	text, place := marked(src)
	b, err := Compile([]byte(text))
	holdError(t, fmt.Sprintf("P14.2: Compile of %.120q", src), err, Refusal{Class: class, Place: place, Why: why})
	if told(b) != told(Built{}) {
		t.Errorf("P14.3: %.120q: beside a refusal %+v", src, b)
	}
}

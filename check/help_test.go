package check

import (
	"reflect"
	"testing"

	"bulkhead/api"
	"bulkhead/syntax"
	"bulkhead/unfold"
)

// good has something of all that a policy may have.
const good = `system s {
	ram 0x10000 size 64K; ram 0x20000 size 64K; ram 8M size 8M;
	device d at 0xf0000000 size 4K dma { map r at 0 write; map q at 0x100000; }
	device e at 0xf0100000 size 1M;
	region r size 8K;
	region q size 8K at 0x1f000 wx fill 7;
	region o size 4K fill "abc";
	region h size 2M at 10M big;
	region f[0] size 8K at 0x12000; region f[1] size 4K at 0x14000; region f[2] size 2M at 12M;
	region g[0] size 4M big; region n size 4K;
	subject a cpu 0 {
		map r at 0x1000 write; map q at 0x3000 write exec; map o at 1 << 30 write; map d at 1 << 38;
		fault tell b vector 63;
	}
	subject b cpu 1 stopped { map r at 0 exec; map o at 0x10000; map h at 4M write; fault stop; }
	subject c[7] cpu 0 { map g[0] at 8M; map e at 0x1000 write; fault reset; }
	channel c from a to b over o vector 5;
	channel k from b to a stop;
	irq i from d to a vector 1 masked;
	irq j from d to b vector 1;
	plan p major 12 {
		cpu 0 { run a 3; idle 2; run c[7] 1; }
		cpu 1 needs { need b 1 every 4; need b 1 every 3; }
	}
	plan z major 1 { }
	master a; start z;
}`

// small has next to nothing.
const small = `system s {
	ram 0 size 64K;
	region r size 4K;
	subject a cpu 3 { map r at 0; }
	plan p major 2 { cpu 3 { run a 1; } }
	start p;
}`

// policy is what a text means.
func policy(t testing.TB, src string) api.Policy {
	t.Helper()
	tree, at, why := syntax.Parse([]byte(src))
	if why != api.OK {
		t.Fatalf("%v, %v", at, why)
	}
	p, bad, why := unfold.Unfold(tree)
	if why != api.OK {
		t.Fatalf("%d, %v", bad, why)
	}
	return p
}

// with makes a text's policy and has it changed.
func with(t testing.TB, src string, change func(p *api.Policy)) api.Policy {
	t.Helper()
	p := policy(t, src)
	change(&p)
	return p
}

// copied is a policy that shares no list with the other one.
func copied(p api.Policy) api.Policy {
	return deep(reflect.ValueOf(p)).Interface().(api.Policy)
}

func deep(v reflect.Value) reflect.Value {
	out := reflect.New(v.Type()).Elem()
	switch v.Kind() {
	case reflect.Struct:
		for i := range v.NumField() {
			out.Field(i).Set(deep(v.Field(i)))
		}
	case reflect.Slice:
		if v.IsNil() {
			return out
		}
		out.Set(reflect.MakeSlice(v.Type(), v.Len(), v.Len()))
		for i := range v.Len() {
			out.Index(i).Set(deep(v.Index(i)))
		}
	default:
		out.Set(v)
	}
	return out
}

// emptied is a policy whose nil lists are empty ones.
func emptied(p api.Policy) api.Policy {
	p = copied(p)
	fillNil(reflect.ValueOf(&p).Elem())
	return p
}

func fillNil(v reflect.Value) {
	switch v.Kind() {
	case reflect.Struct:
		for i := range v.NumField() {
			fillNil(v.Field(i))
		}
	case reflect.Slice:
		if v.IsNil() {
			v.Set(reflect.MakeSlice(v.Type(), 0, 3))
		}
		for i := range v.Len() {
			fillNil(v.Index(i))
		}
	}
}

// setPlaces gives each declaration of a policy a place.
func setPlaces(v reflect.Value, place func() int) {
	switch v.Kind() {
	case reflect.Struct:
		v.FieldByName("Pos").SetInt(int64(place()))
		for i := range v.NumField() {
			setPlaces(v.Field(i), place)
		}
	case reflect.Slice:
		for i := range v.Len() {
			setPlaces(v.Index(i), place)
		}
	}
}

// atOnePlace lays all declarations of a policy at one place.
func atOnePlace(p *api.Policy, place int) {
	setPlaces(reflect.ValueOf(p).Elem(), func() int { return place })
}

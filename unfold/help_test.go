package unfold

import (
	"fmt"
	"reflect"
	"strings"
	"testing"

	"bulkhead/api"
	"bulkhead/syntax"
)

// read reads a text that must be a policy's.
func read(t *testing.T, src string) api.Tree {
	t.Helper()
	tree, place, why := syntax.Parse([]byte(src))
	if why != api.OK {
		t.Fatalf("%.200q: %v at %+v", src, why, place)
	}
	return tree
}

// system puts items into a policy.
func system(items string) string { return "system s { " + items + " }" }

// unfolded unfolds items that must be taken.
func unfolded(t *testing.T, items string) api.Policy {
	t.Helper()
	p, at, why := Unfold(read(t, system(items)))
	if why != api.OK || at != 0 {
		t.Fatalf("%.200q: %v at %d", items, why, at)
	}
	return p
}

// refused holds the refusal of items against the one that is asked for; its
// place is the byte behind the @, which is taken out. OK: none is asked for.
func refused(t *testing.T, promise, items string, want api.Errno) {
	t.Helper()
	src := system(items)
	place := max(strings.Index(src, "@"), 0)
	p, at, why := Unfold(read(t, strings.Replace(src, "@", "", 1)))
	if why != want || at != place {
		t.Errorf("%s: %.200q: %v at %d, want %v at %d", promise, items, why, at, want, place)
	}
	if why != api.OK && told(p) != told(api.Policy{}) {
		t.Errorf("%s: %.200q: %v, and beside it %+v", promise, items, why, p)
	}
}

// told tells all of a policy; nil and empty lists alike.
func told(p api.Policy) string { return fmt.Sprintf("%+v", p) }

// unplaced tells all of a policy but its offsets.
func unplaced(p api.Policy) string {
	p = copied(reflect.ValueOf(p)).Interface().(api.Policy)
	p.Pos = 0
	for _, list := range lists(reflect.ValueOf(p)) {
		for i := range list.Len() {
			list.Index(i).FieldByName("Pos").SetInt(0)
		}
	}
	return told(p)
}

// copied makes a copy that shares no list.
func copied(v reflect.Value) reflect.Value {
	out := reflect.New(v.Type()).Elem()
	out.Set(v)
	switch v.Kind() {
	case reflect.Slice:
		out.Set(reflect.MakeSlice(v.Type(), v.Len(), v.Len()))
		for i := range v.Len() {
			out.Index(i).Set(copied(v.Index(i)))
		}
	case reflect.Struct:
		for i := range v.NumField() {
			if kind := v.Field(i).Kind(); kind == reflect.Slice || kind == reflect.Struct {
				out.Field(i).Set(copied(v.Field(i)))
			}
		}
	}
	return out
}

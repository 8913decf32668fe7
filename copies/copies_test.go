package copies

import (
	"fmt"
	"reflect"
	"slices"
	"testing"

	"widgetry/api"
)

func list(l ...api.Value) api.Value { return api.Value{Kind: api.ValueList, L: l} }

// nested returns a number in n lists.
func nested(n int) api.Value {
	v := api.Value{Kind: api.ValueInt, N: 7}
	for range n {
		v = list(v)
	}
	return v
}

// depth returns how many lists are around the innermost value.
func depth(v api.Value) int {
	n := 0
	for len(v.L) > 0 {
		v = v.L[0]
		n++
	}
	return n
}

// slicesOf returns the addresses of all slices of a value, each of which has elements of its own.
func slicesOf(v reflect.Value) []uintptr {
	var l []uintptr
	switch v.Kind() {
	case reflect.Struct:
		for i := range v.NumField() {
			l = append(l, slicesOf(v.Field(i))...)
		}
	case reflect.Slice:
		if v.Cap() > 0 {
			l = append(l, v.Pointer())
		}
		for i := range v.Len() {
			l = append(l, slicesOf(v.Index(i))...)
		}
	}
	return l
}

// testCopy checks that a copy has no slice of the original, and none twice.
func testCopy(t *testing.T, original, copied any) {
	t.Helper()
	if fmt.Sprint(original) != fmt.Sprint(copied) {
		t.Errorf("R2: the copy of %v is %v", original, copied)
	}
	own := slicesOf(reflect.ValueOf(copied))
	all := slices.Concat(slices.Compact(slices.Sorted(slices.Values(own))), slicesOf(reflect.ValueOf(original)))
	for i, p := range own {
		if slices.Contains(own[:i], p) || slices.Contains(all[len(own):], p) {
			t.Errorf("R2: the copy of %v shares memory", original)
		}
	}
}

func TestCopies(t *testing.T) {
	inner := []api.Value{{Kind: api.ValueText, S: "a"}, list(api.Value{Kind: 9, N: 1 << 60, S: "\xff"})}
	values := []api.Value{list(inner...), list(inner...), {}, {Kind: -1, L: inner}}
	attrs := []api.Attr{{Name: "a", Value: values[0]}, {Name: "a", Value: values[0]}, {}}
	actions := []api.Action{{Event: "e", Instance: "/", Handler: "h", Args: values}, {Args: values}, {}}
	kids := []api.View{{Kind: 1, Key: "k", Attrs: attrs, Actions: actions}, {Kind: 2, Attrs: attrs}}
	view := api.View{Kind: 3, Attrs: attrs, Actions: actions, Kids: append(kids, api.View{Kids: kids})}
	node := api.Node{ID: 4, Parent: 3, Kind: 2, Key: "n", Attrs: attrs, Actions: actions, Kids: []int{3, 3}}
	testCopy(t, values, Values(values))
	testCopy(t, values[3], Value(values[3]))
	testCopy(t, attrs, Attrs(attrs))
	testCopy(t, actions, Actions(actions))
	testCopy(t, node, Node(node))
	tree := api.Tree{Root: 9, Next: -1, Nodes: []api.Node{node, node, {}}}
	font := api.Font{Units: 16, Ascent: 1, Descent: 2, Gap: 3, Default: 4, Advances: []api.Advance{{From: 1, To: 2, Width: 3}}, Kerns: []api.Kern{{A: 1, B: 2, D: 3}}, Ligatures: []api.Ligature{{A: 1, B: 2, Glyph: 3, Width: 4}}}
	fonts := []api.Font{font, font, {}}
	testCopy(t, tree, Tree(tree))
	testCopy(t, fonts, Fonts(fonts))
	testCopy(t, view, View(view))
	testCopy(t, view, View(View(view)))
	if len(Values(nil))+len(Attrs(nil))+len(Actions(nil))+len(Fonts(nil))+len(Tree(api.Tree{}).Nodes) > 0 {
		t.Error("R2: the copy of nothing has elements")
	}
}

// TestEndless copies values that have no end, or very many elements (R1).
func TestEndless(t *testing.T) {
	l := make([]api.Value, 2)
	l[0], l[1] = list(l...), list(l...)
	if got := Value(l[0]); got.Kind != api.ValueList || len(got.L) != 0 {
		t.Errorf("R1: the copy of an endless list has the kind %d and %d elements", got.Kind, len(got.L))
	}
	one := make([]api.Value, 1)
	one[0] = list(one...)
	if got := Values([]api.Value{one[0], nested(3)}); len(got) != 2 || len(got[0].L) != 0 || depth(got[1]) != 3 {
		t.Errorf("R1: the copy of an endless list beside another one: %v", got)
	}
	wide := list()
	for range 60 {
		wide = list(wide, wide)
	}
	if got := Value(wide); len(got.L) != 0 {
		t.Errorf("R1: the copy of very many values has %d elements", len(got.L))
	}
}

// TestDeep copies values that are as deep as the document's bounds permit (R10).
func TestDeep(t *testing.T) {
	for n, want := range map[int]int{0: 0, 1: 1, 17: 17, 1 << 10: 1 << 10, 1 << 16: 1 << 16, 1<<16 + 1: 0} {
		if got := depth(Value(nested(n))); got != want {
			t.Errorf("R10: the copy of a value in %d lists is in %d lists", n, got)
		}
	}
	many := list(slices.Repeat([]api.Value{list(nested(0), nested(0))}, 100000)...)
	if got := Value(many); fmt.Sprint(got) != fmt.Sprint(many) {
		t.Errorf("R10: the copy of many values has %d elements", len(got.L))
	}
}

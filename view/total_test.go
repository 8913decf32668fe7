package view

import (
	"fmt"
	"math"
	"reflect"
	"slices"
	"testing"

	"widgetry/api"
)

// TestEndlessViews examines views that contain themselves (R1).
func TestEndlessViews(t *testing.T) {
	for _, n := range []int{1, 2, api.MaxKids} {
		kids := make([]api.View, n)
		for i := range kids {
			kids[i] = group(kids...)
		}
		testValidate(t, fmt.Sprintf("a view of %d views that contain themselves", n), kids[0], api.ErrDepth)
		if Equal(kids[0], group()) || Equal(group(), kids[0]) {
			t.Error("P14.3: a view that contains itself is equal to another one")
		}
	}
	kids := make([]api.View, api.MaxKids+1)
	for i := range kids {
		kids[i] = group(kids...)
	}
	testValidate(t, "a view of too many views that contain themselves", kids[0], api.ErrTooLong)
	wide := group()
	for range api.MaxDepth - 4 {
		wide = group(slices.Repeat([]api.View{wide}, api.MaxKids)...)
	}
	testValidate(t, "very many views", wide, api.ErrTooLong)
	same := keyed("a")
	same.Kids = []api.View{group(wide), same}
	testValidate(t, "very many views within each other", group(keyed("a"), same), api.ErrDuplicate)
}

// TestEndlessValues examines values that contain themselves (R1).
func TestEndlessValues(t *testing.T) {
	for _, n := range []int{1, 2, 1000} {
		l := make([]api.Value, n)
		for i := range l {
			l[i] = seq(l...)
		}
		want := api.ErrDepth
		if n > api.MaxKids {
			want = api.ErrTooLong
		}
		bad := attr("a", l[0])
		testValidate(t, "an attribute that contains itself", attrs(bad), want)
		testValidate(t, "an argument that contains itself", actions(action("a", "go", l[0])), want)
		tree := built(t, group(group()), 1)
		tree.Nodes[1].Attrs = []api.Attr{bad}
		testCheck(t, "a tree with an attribute that contains itself", tree, want)
		tree.Nodes[1].Attrs, tree.Nodes[1].Actions = nil, []api.Action{action("a", "go", l[0])}
		testCheck(t, "a tree with an argument that contains itself", tree, want)
		if v, ok := Attr([]api.Attr{bad}, "a"); !ok || v.Kind != api.ValueList {
			t.Errorf("P14.4: Attr of a value that contains itself = %d, %t", v.Kind, ok)
		}
		if Text([]api.Attr{bad}, "a") != "" || Number([]api.Attr{bad}, "a", 3) != 3 || Flag([]api.Attr{bad}, "a") {
			t.Error("P14.4: a value that contains itself is a text, a number or a flag")
		}
	}
}

// TestStrangeTrees examines trees with numbers and lists far beyond the limits (R1).
func TestStrangeTrees(t *testing.T) {
	strange := []int{math.MinInt, math.MinInt + 1, -1, 0, 1, 2, 3, 1 << 40, math.MaxInt - 1, math.MaxInt}
	for _, a := range strange {
		for _, b := range strange {
			for _, c := range strange {
				testTree(t, api.Tree{Root: a, Next: c, Nodes: []api.Node{{ID: a, Parent: b, Kind: 1}}})
				testTree(t, api.Tree{Root: a, Next: c, Nodes: []api.Node{{ID: a, Kind: 1, Kids: []int{b}}, {ID: b, Parent: a, Kind: 1}}})
				testTree(t, api.Tree{Root: 1, Next: 10, Nodes: []api.Node{{ID: 1, Parent: a, Kind: 1, Kids: []int{b, c}}}})
			}
		}
	}
	tree := built(t, group(group()), 1)
	tree.Nodes[0].Kids = slices.Repeat([]int{2}, 1<<22)
	testCheck(t, "a tree with very many children", tree, api.ErrState)
	tree.Nodes[0].Kids = make([]int, 1<<22)
	testCheck(t, "a tree with very many children that are not there", tree, api.ErrState)
	testNoTree(t, api.Tree{Root: 1, Next: 1 << 23, Nodes: make([]api.Node, 1<<16)})
}

// area is the memory of a slice.
type area struct{ from, to uintptr }

// areasOf returns the memory of all slices that can be reached from a value.
func areasOf(v reflect.Value) []area {
	var l []area
	switch v.Kind() {
	case reflect.Struct:
		for i := range v.NumField() {
			l = append(l, areasOf(v.Field(i))...)
		}
	case reflect.Slice:
		if v.Cap() > 0 {
			l = append(l, area{v.Pointer(), v.Pointer() + uintptr(v.Cap())*v.Type().Elem().Size()})
		}
		for i := range v.Len() {
			l = append(l, areasOf(v.Index(i))...)
		}
	}
	return l
}

// testMemory checks that no two slices of results share memory, and none shares memory with an argument (R2).
func testMemory(t *testing.T, what string, argument any, results ...any) {
	t.Helper()
	var own []area
	for _, x := range results {
		own = append(own, areasOf(reflect.ValueOf(x))...)
	}
	other := areasOf(reflect.ValueOf(argument))
	for i, a := range own {
		for _, b := range append(own[:i:i], other...) {
			if a.from < b.to && b.from < a.to {
				t.Fatalf("R2: %s shares memory: %s", what, show(argument))
			}
		}
	}
}

// TestMemory checks that results share no memory with the arguments or with each other (R2), and that no argument changes.
func TestMemory(t *testing.T) {
	m := newMaker(4)
	views := []api.View{screen()}
	for range 300 {
		views = append(views, m.views(m.IntN(20), 1+m.IntN(8)))
	}
	for _, v := range views {
		// Lists that are shared by views are not shared by nodes.
		v.Kids = append(v.Kids, attrs(v.Attrs...), attrs(v.Attrs...), actions(v.Actions...), actions(v.Actions...))
		before := show(v)
		tree, e := Build(v, 1)
		if e != api.OK || show(v) != before {
			t.Fatalf("R2: Build has changed %s, %d", before, e)
		}
		testMemory(t, "a tree", v, tree)
		form := show(tree)
		described, e := Describe(tree)
		again, _ := Describe(tree)
		results := []any{described, again, Order(tree), Order(tree)}
		for _, n := range tree.Nodes {
			found, _ := Find(tree, n.ID)
			results = append(results, found, Path(tree, n.ID))
			for _, a := range n.Attrs {
				value, _ := Attr(n.Attrs, a.Name)
				results = append(results, value)
			}
		}
		testMemory(t, "what a tree contains", tree, results...)
		if e != api.OK || show(tree) != form || show(described) != before || show(again) != before {
			t.Fatalf("R2: a tree has changed: %s, %s", form, show(tree))
		}
		if !Equal(v, described) || show(v) != before {
			t.Fatalf("R2: a view has changed: %s", before)
		}
	}
}

package reconcile

import (
	"math"
	"reflect"
	"slices"
	"testing"

	"widgetry/api"
)

// TestEndless passes views and values that contain themselves (R1).
func TestEndless(t *testing.T) {
	tree := built(t, family(), 1)
	kids := make([]api.View, 2)
	for i := range kids {
		kids[i] = group(kids...)
	}
	if l, e := Diff(tree, kids[0]); e != api.ErrDepth || len(l) > 0 {
		t.Errorf("P15.3: Diff to a view that contains itself: %d, %d", len(l), e)
	}
	for _, n := range []int{1, 2, 1000} {
		values := make([]api.Value, n)
		for i := range values {
			values[i] = seq(values...)
		}
		want := api.ErrDepth
		if n > api.MaxKids {
			want = api.ErrTooLong
		}
		bad := api.View{Kind: 1, Attrs: []api.Attr{attr("a", values[0])}}
		worse := api.View{Kind: 1, Actions: []api.Action{action("a", "go", values[0])}}
		for _, v := range []api.View{bad, worse} {
			if l, e := Diff(tree, v); e != want || len(l) > 0 {
				t.Errorf("P15.3: Diff to a value that contains itself: %d, %d", len(l), e)
			}
			if _, e := Apply(tree, []api.Change{insert(8, 1, 0, v)}); e != want {
				t.Errorf("P15.4: Apply of a value that contains itself: %d, want %d", e, want)
			}
			if _, e := Apply(tree, []api.Change{update(1, v)}); e != want {
				t.Errorf("P15.4: Apply of a value that contains itself: %d, want %d", e, want)
			}
			if got, e := Apply(tree, []api.Change{update(1, v), insert(8, 1, 0, v), update(1, group()), remove(8)}); e != api.OK || got.Next != 9 {
				t.Errorf("P15.4: Apply of a value that contains itself for a while: %d", e)
			}
			broken := built(t, family(), 1)
			broken.Nodes[0].Attrs, broken.Nodes[0].Actions = v.Attrs, v.Actions
			_, e := Diff(broken, family())
			_, f := Apply(broken, nil)
			if e != want || f != want {
				t.Errorf("P15.3, P15.4: a tree with a value that contains itself: %d, %d, want %d", e, f, want)
			}
		}
	}
}

// TestStrangeChanges compares Apply with its reading for changes with strange numbers (R1).
func TestStrangeChanges(t *testing.T) {
	tree := built(t, group(group()), 1)
	strange := []int{math.MinInt, -1, 0, 1, 2, 3, 1<<40 - 1, 1 << 40, math.MaxInt}
	for kind := -1; kind < 6; kind++ {
		for _, id := range strange {
			for _, parent := range strange {
				for _, before := range strange {
					l := []api.Change{{Kind: kind, ID: id, Parent: parent, Before: before, View: 1}}
					var want api.Tree
					e := errorOf(func() { want = applyRead(tree, l) })
					if got, f := Apply(tree, l); f != e || show(got) != show(want) {
						t.Fatalf("P15.4: Apply of %s = %s, %d, want %s, %d", show(l), show(got), f, show(want), e)
					}
				}
			}
		}
	}
}

// TestManyChanges builds large trees for a while (R1).
func TestManyChanges(t *testing.T) {
	tree := built(t, group(), 1)
	var deep, wide []api.Change
	for i := range 1 << 17 {
		deep = append(deep, insert(i+2, i+1, 0, group()))
		wide = append(wide, insert(i+2, 1, 0, group()))
	}
	for _, l := range [][]api.Change{deep, wide} {
		if _, e := Apply(tree, l); e != api.ErrState {
			t.Errorf("P15.4: very many nodes: %d", e)
		}
		if got, e := Apply(tree, append(l, remove(1), insert(1, 0, 0, group()))); e != api.OK || len(got.Nodes) != 1 || got.Next != 1<<17+2 {
			t.Errorf("P15.4: very many nodes for a while: %d", e)
		}
	}
}

// area is the memory of a slice.
type area struct{ from, to uintptr }

// areasOf returns the memory of all slices that can be reached from a value.
func areasOf(v reflect.Value) []area {
	var l []area
	switch v.Kind() {
	case reflect.Struct:
		for i := range v.NumField() {
			l = append(l, areasOf(v.Field(i))...)
		}
	case reflect.Slice:
		if v.Cap() > 0 {
			l = append(l, area{v.Pointer(), v.Pointer() + uintptr(v.Cap())*v.Type().Elem().Size()})
		}
		for i := range v.Len() {
			l = append(l, areasOf(v.Index(i))...)
		}
	}
	return l
}

// testMemory checks that no two slices of a result share memory, and none shares memory with an argument (R2).
func testMemory(t *testing.T, what string, result any, arguments ...any) {
	t.Helper()
	own := areasOf(reflect.ValueOf(result))
	var other []area
	for _, x := range arguments {
		other = append(other, areasOf(reflect.ValueOf(x))...)
	}
	for i, a := range own {
		for _, b := range append(own[:i:i], other...) {
			if a.from < b.to && b.from < a.to {
				t.Fatalf("R2: %s shares memory: %s", what, show(result))
			}
		}
	}
}

func TestMemory(t *testing.T) {
	m := newMaker(4)
	for range 400 {
		tree, v := m.tree(t)
		for range m.IntN(4) {
			m.change(&v)
		}
		// Lists that views share are not shared by changes.
		shared := api.View{Kind: 1, Attrs: []api.Attr{attr("a", seq(num(1)))}, Actions: []api.Action{action("a", "go", seq(num(1)))}}
		v.Kids = slices.Concat(v.Kids, []api.View{shared, shared})
		l, _ := Diff(tree, v)
		testMemory(t, "a list of changes", l, tree, v)
		// Neither are lists that changes share.
		for i := range l {
			if l[i].Kind == api.ChangeInsert || l[i].Kind == api.ChangeUpdate {
				l[i].Attrs, l[i].Actions = shared.Attrs, shared.Actions
			}
		}
		result, _ := Apply(tree, l)
		testMemory(t, "a tree", result, tree, l)
		same, _ := Apply(tree, nil)
		testMemory(t, "an unchanged tree", same, tree)
		if show(same) != show(tree) {
			t.Fatalf("P15.4: Apply without changes = %s, want %s", show(same), show(tree))
		}
	}
	numbers := []int{1, 2, 3}
	testMemory(t, "a list of indices", Kept(numbers), numbers)
}

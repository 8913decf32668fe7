package style

import (
	"fmt"
	"math"
	"slices"
	"strings"
	"testing"

	"widgetry/api"
	"widgetry/view"
)

// row is a row of the table of the chapter.
type row struct {
	prop                 int
	inherited            bool
	least, most, initial int
}

func rows() []row {
	return []row{
		{0, true, 0, 16777215, 0},
		{1, false, -1, 16777215, -1},
		{2, true, 1, 1000, 16},
		{3, true, 0, 7, 0},
		{4, true, 0, 1, 0},
		{5, false, 0, 4, 1},
		{6, false, 0, 4, 3},
		{7, false, 0, 3, 0},
		{8, true, 0, 2, 0},
		{9, false, 0, 1048576, 0},
		{10, false, 0, 1000, 0},
		{11, false, 0, 1000, 1},
		{12, false, -1, 1048576, -1},
		{13, false, 0, 1048576, 0},
		{14, false, 0, 1048576, 1048576},
		{15, false, 0, 1048576, 0},
		{16, false, 0, 1048576, 1048576},
		{17, false, 0, 1048576, 0},
		{18, false, 0, 1048576, 0},
		{19, false, 0, 1048576, 0},
		{20, false, 0, 1048576, 0},
		{21, true, 0, 1, 0},
	}
}

// show writes a value with all lists; nil and empty lists look the same.
func show(x any) string { return strings.ReplaceAll(fmt.Sprintf("%+v", x), "<nil>", "[]") }

func text(s string) api.Value { return api.Value{Kind: api.ValueText, S: s} }

func truth(n int) api.Value { return api.Value{Kind: api.ValueBool, N: n} }

func num(n int) api.Value { return api.Value{Kind: api.ValueInt, N: n} }

// element returns a view with a class, unless that is empty.
func element(kind int, class string, kids ...api.View) api.View {
	v := api.View{Kind: kind, Kids: kids}
	if class != "" {
		v.Attrs = []api.Attr{{Name: "class", Value: text(class)}}
	}
	return v
}

// built returns the tree of a valid view.
func built(t *testing.T, v api.View, next int) api.Tree {
	t.Helper()
	tree, e := view.Build(v, next)
	if e != api.OK {
		t.Fatalf("P14.3: Build: %d", e)
	}
	return tree
}

// family is a tree whose nodes have the IDs 1 to 7 in preorder: a group with a button and a list, which have children.
func family(t *testing.T) api.Tree {
	return built(t, element(api.KindGroup, "app",
		element(api.KindButton, "go", element(api.KindLabel, "")),
		element(api.KindList, "", element(api.KindItem, "odd", element(api.KindLabel, "go")), element(api.KindItem, "even")),
	), 1)
}

// renumber gives the nodes of a tree other IDs.
func renumber(tree *api.Tree, ids map[int]int) {
	for i := range tree.Nodes {
		n := &tree.Nodes[i]
		n.ID, n.Parent = ids[n.ID], ids[n.Parent]
		for j, k := range n.Kids {
			n.Kids[j] = ids[k]
		}
	}
	slices.SortFunc(tree.Nodes, func(a, b api.Node) int { return a.ID - b.ID })
	tree.Root = ids[tree.Root]
	tree.Next = 1 + tree.Nodes[len(tree.Nodes)-1].ID
}

// upside returns the family with the IDs 70 (the root) to 10, so that children have lower IDs than their parents.
func upside(t *testing.T) api.Tree {
	tree := family(t)
	renumber(&tree, map[int]int{1: 70, 2: 60, 3: 50, 4: 40, 5: 30, 6: 20, 7: 10})
	return tree
}

func TestProperties(t *testing.T) {
	initial := Initial()
	for _, x := range rows() {
		if got := Inherited(x.prop); got != x.inherited {
			t.Errorf("P17.1: Inherited(%d) = %t", x.prop, got)
		}
		if initial[x.prop] != x.initial {
			t.Errorf("P17.1: the initial value of %d is %d, want %d", x.prop, initial[x.prop], x.initial)
		}
		for _, n := range []int{math.MinInt, -2, -1, 0, 1, 2, 3, 4, 5, 7, 8, x.least - 1, x.least, x.least + 1, x.most - 1, x.most, x.most + 1, 1 << 32, math.MaxInt} {
			if got := InRange(x.prop, n); got != (x.least <= n && n <= x.most) {
				t.Errorf("P17.1: InRange(%d, %d) = %t", x.prop, n, got)
			}
		}
	}
	if len(rows()) != api.PropCount || initial[api.PropFontSize] != 16 || initial[api.PropDisplay] != api.DisplayColumn || initial[api.PropAlign] != api.AlignStretch {
		t.Errorf("P17.1: Initial = %v", initial)
	}
}

func TestNoProperty(t *testing.T) {
	for _, prop := range []int{math.MinInt, -22, -1, 22, 23, 1 << 32, 1<<32 + 2, math.MaxInt} {
		for _, n := range []int{math.MinInt, -1, 0, 1, math.MaxInt} {
			if Inherited(prop) || InRange(prop, n) {
				t.Errorf("P17.1: Inherited(%d) = %t, InRange(%d, %d) = %t", prop, Inherited(prop), prop, n, InRange(prop, n))
			}
		}
	}
}

func TestFromAttrs(t *testing.T) {
	attrs := func(l ...api.Attr) api.View { return api.View{Kind: api.KindCheck, Attrs: l} }
	disabled := func(v api.Value) api.Attr { return api.Attr{Name: "disabled", Value: v} }
	checked := func(v api.Value) api.Attr { return api.Attr{Name: "checked", Value: v} }
	for _, x := range []struct {
		v    api.View
		want int
	}{
		{attrs(), 0},
		{attrs(disabled(truth(1))), 8},
		{attrs(checked(truth(1))), 16},
		{attrs(checked(truth(1)), disabled(truth(1))), 24},
		{attrs(checked(truth(0)), disabled(truth(1))), 8},
		{attrs(checked(truth(1)), disabled(truth(0))), 16},
		{attrs(checked(truth(0)), disabled(truth(0))), 0},
		// An attribute of another kind counts as absent (R9).
		{attrs(checked(num(1)), disabled(text("true"))), 0},
		{attrs(checked(api.Value{Kind: api.ValueList, L: []api.Value{truth(1)}}), disabled(truth(1))), 8},
		{attrs(api.Attr{Name: "check", Value: truth(1)}, api.Attr{Name: "disable", Value: truth(1)}, api.Attr{Name: "focused", Value: truth(1)}, api.Attr{Name: "hovered", Value: truth(1)}), 0},
		{attrs(api.Attr{Name: "Checked", Value: truth(1)}), 0},
	} {
		for kind := 1; kind <= api.MostKind; kind++ {
			x.v.Kind = kind
			var want []api.NodeStates
			if x.want != 0 {
				want = []api.NodeStates{{ID: 7, States: x.want}}
			}
			if got := FromAttrs(built(t, x.v, 7)); !slices.Equal(got, want) {
				t.Errorf("P17.6: FromAttrs of %s = %v, want %v", show(x.v), got, want)
			}
		}
	}
}

func TestFromAttrsOrder(t *testing.T) {
	tree := upside(t)
	want := []api.NodeStates{{ID: 10, States: 16}, {ID: 30, States: 8}, {ID: 40, States: 24}, {ID: 70, States: 8}}
	for i := range tree.Nodes {
		n := &tree.Nodes[i]
		for _, x := range want {
			if x.ID == n.ID && x.States&16 != 0 {
				n.Attrs = append(n.Attrs, api.Attr{Name: "checked", Value: truth(1)})
			}
		}
		slices.SortFunc(n.Attrs, func(a, b api.Attr) int { return strings.Compare(a.Name, b.Name) })
		for _, x := range want {
			if x.ID == n.ID && x.States&8 != 0 {
				n.Attrs = append(n.Attrs, api.Attr{Name: "disabled", Value: truth(1)})
			}
		}
	}
	if got := FromAttrs(tree); !slices.Equal(got, want) {
		t.Errorf("P17.6: FromAttrs = %v, want %v", got, want)
	}
	tree.Root = 60
	if got := FromAttrs(tree); len(got) > 0 {
		t.Errorf("P17.6: FromAttrs of a tree that is not valid = %v", got)
	}
	if got := FromAttrs(api.Tree{}); len(got) > 0 {
		t.Errorf("P17.6: FromAttrs of no tree = %v", got)
	}
}

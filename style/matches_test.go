package style

import (
	"math"
	"slices"
	"testing"

	"widgetry/api"
)

// expectMatches checks which nodes of the family a rule matches.
func expectMatches(t *testing.T, r api.Rule, st []api.NodeStates, want ...int) {
	t.Helper()
	tree, turned := family(t), upside(t)
	var other []api.NodeStates
	for _, x := range st {
		other = append(other, api.NodeStates{ID: 80 - 10*x.ID, States: x.States})
	}
	for id := 1; id <= 7; id++ {
		if got := Matches(r, tree, st, id); got != slices.Contains(want, id) {
			t.Errorf("P17.3: Matches of %s with %v and the node %d = %t", show(r), st, id, got)
		}
		if got := Matches(r, turned, other, 80-10*id); got != slices.Contains(want, id) {
			t.Errorf("P17.3: Matches of %s with %v and the node %d = %t", show(r), other, 80-10*id, got)
		}
	}
}

func TestMatchesKindAndClass(t *testing.T) {
	expectMatches(t, api.Rule{}, nil, 1, 2, 3, 4, 5, 6, 7)
	expectMatches(t, decls(literal(api.PropGap, 1)), nil, 1, 2, 3, 4, 5, 6, 7)
	expectMatches(t, api.Rule{Kind: api.KindGroup}, nil, 1)
	expectMatches(t, api.Rule{Kind: api.KindLabel}, nil, 3, 6)
	expectMatches(t, api.Rule{Kind: api.KindItem}, nil, 5, 7)
	expectMatches(t, api.Rule{Kind: api.KindDialog}, nil)
	expectMatches(t, api.Rule{Class: "go"}, nil, 2, 6)
	expectMatches(t, api.Rule{Class: "Go"}, nil)
	expectMatches(t, api.Rule{Class: "g"}, nil)
	expectMatches(t, api.Rule{Kind: api.KindLabel, Class: "go"}, nil, 6)
	expectMatches(t, api.Rule{Kind: api.KindGroup, Class: "go"}, nil)
	// A rule that is not valid matches nothing that has not what it asks for.
	expectMatches(t, api.Rule{Kind: -1}, nil)
	expectMatches(t, api.Rule{Kind: 14}, nil)
	expectMatches(t, api.Rule{Class: "."}, nil)
	expectMatches(t, decls(api.Decl{Prop: -1}), nil, 1, 2, 3, 4, 5, 6, 7)
}

func TestMatchesUnder(t *testing.T) {
	expectMatches(t, api.Rule{UnderKind: api.KindGroup}, nil, 2, 3, 4, 5, 6, 7)
	expectMatches(t, api.Rule{UnderKind: api.KindList}, nil, 5, 6, 7)
	expectMatches(t, api.Rule{UnderKind: api.KindLabel}, nil)
	expectMatches(t, api.Rule{UnderClass: "app"}, nil, 2, 3, 4, 5, 6, 7)
	expectMatches(t, api.Rule{UnderClass: "odd"}, nil, 6)
	expectMatches(t, api.Rule{UnderClass: "go"}, nil, 3)
	expectMatches(t, api.Rule{UnderKind: api.KindItem, UnderClass: "odd"}, nil, 6)
	// The kind and the class have to be those of one ancestor.
	expectMatches(t, api.Rule{UnderKind: api.KindItem, UnderClass: "app"}, nil)
	expectMatches(t, api.Rule{UnderKind: api.KindItem, UnderClass: "even"}, nil)
	expectMatches(t, api.Rule{Kind: api.KindLabel, UnderKind: api.KindButton}, nil, 3)
	expectMatches(t, api.Rule{Class: "go", UnderKind: api.KindList}, nil, 6)
	expectMatches(t, api.Rule{Kind: api.KindLabel, Class: "go", UnderKind: api.KindList, UnderClass: "app"}, nil)
	expectMatches(t, api.Rule{Kind: api.KindLabel, Class: "go", UnderKind: api.KindGroup, UnderClass: "app"}, nil, 6)
	expectMatches(t, api.Rule{Kind: api.KindGroup, UnderKind: api.KindGroup}, nil)
	expectMatches(t, api.Rule{UnderKind: -1}, nil)
	expectMatches(t, api.Rule{UnderKind: 14}, nil)
	expectMatches(t, api.Rule{UnderClass: "."}, nil)
}

func TestMatchesStates(t *testing.T) {
	st := []api.NodeStates{{ID: 6, States: 31}, {ID: 2, States: 5}, {ID: 3, States: 0}, {ID: 2, States: 31}, {ID: 4, States: 8}, {ID: 3, States: 4}, {ID: 9, States: 31}, {ID: 6, States: 0}}
	expectMatches(t, api.Rule{}, st, 1, 2, 3, 4, 5, 6, 7)
	expectMatches(t, api.Rule{States: api.StateHovered}, st, 2, 6)
	expectMatches(t, api.Rule{States: api.StateHovered | api.StateFocused}, st, 2, 6)
	expectMatches(t, api.Rule{States: api.StateHovered | api.StatePressed}, st, 6)
	expectMatches(t, api.Rule{States: api.StateFocused}, st, 2, 6)
	expectMatches(t, api.Rule{States: api.StateDisabled}, st, 4, 6)
	expectMatches(t, api.Rule{States: api.StateDisabled | api.StateChecked}, st, 6)
	expectMatches(t, api.Rule{States: 31}, st, 6)
	expectMatches(t, api.Rule{States: 32}, st)
	expectMatches(t, api.Rule{States: -1}, st)
	expectMatches(t, api.Rule{States: math.MinInt}, st)
	expectMatches(t, api.Rule{States: api.StateHovered}, nil)
	expectMatches(t, api.Rule{Kind: api.KindLabel, States: api.StateFocused}, st, 6)
	expectMatches(t, api.Rule{Class: "go", States: api.StatePressed}, st, 6)
	// The states of an ancestor do not count.
	expectMatches(t, api.Rule{States: api.StateHovered, UnderKind: api.KindButton}, st)
	expectMatches(t, api.Rule{States: api.StateHovered, UnderKind: api.KindGroup}, st, 2, 6)
	expectMatches(t, api.Rule{States: 1}, []api.NodeStates{{ID: 1, States: -1}, {ID: 2, States: -2}}, 1)
}

// TestMatchesAttribute gives the class attribute other values.
func TestMatchesAttribute(t *testing.T) {
	for _, v := range []api.Value{num(1), truth(1), {Kind: api.ValueList, L: []api.Value{text("go")}}, text(""), text("stop")} {
		tree := family(t)
		tree.Nodes[1].Attrs[0].Value = v
		if Matches(api.Rule{Class: "go"}, tree, nil, 2) || Matches(api.Rule{UnderClass: "go"}, tree, nil, 3) {
			t.Errorf("P17.3: the class go matches %s", show(v))
		}
		if !Matches(api.Rule{Kind: api.KindButton}, tree, nil, 2) || !Matches(api.Rule{UnderKind: api.KindButton}, tree, nil, 3) {
			t.Errorf("P17.3: no class does not match %s", show(v))
		}
	}
	// A class need not be a name.
	tree := family(t)
	tree.Nodes[1].Attrs[0].Value = text("no name")
	if !Matches(api.Rule{Class: "no name"}, tree, nil, 2) || !Matches(api.Rule{UnderClass: "no name"}, tree, nil, 3) {
		t.Error("P17.3: a class that is no name does not match itself")
	}
	tree.Nodes[1].Attrs[0].Name = "classes"
	if Matches(api.Rule{Class: "no name"}, tree, nil, 2) {
		t.Error("P17.3: another attribute is taken for the class")
	}
}

func TestMatchesNoNode(t *testing.T) {
	tree := family(t)
	for _, id := range []int{math.MinInt, -1, 0, 8, 1 << 40, math.MaxInt} {
		for _, r := range []api.Rule{{}, {UnderKind: api.KindGroup}, {UnderClass: "app"}, {States: 1}, {Kind: -1}} {
			if Matches(r, tree, []api.NodeStates{{ID: id, States: 31}}, id) {
				t.Errorf("P17.3: Matches of %s with the node %d, which does not exist", show(r), id)
			}
		}
	}
	for _, spoil := range []func(t *api.Tree){
		func(t *api.Tree) { t.Root = 2 }, func(t *api.Tree) { t.Next = 7 }, func(t *api.Tree) { t.Nodes[3].Kind = 0 },
		func(t *api.Tree) { t.Nodes[5].Parent = 4 }, func(t *api.Tree) { t.Nodes[6].Key = "." }, func(t *api.Tree) { t.Nodes = t.Nodes[:6] },
	} {
		broken := family(t)
		spoil(&broken)
		for id := 0; id < 9; id++ {
			if Matches(api.Rule{}, broken, nil, id) {
				t.Errorf("P17.3: Matches with the node %d of a tree that is not valid: %s", id, show(broken))
			}
		}
	}
	if Matches(api.Rule{}, api.Tree{}, nil, 0) {
		t.Error("P17.3: Matches of no tree")
	}
}

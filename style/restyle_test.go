package style

import (
	"slices"
	"testing"

	"widgetry/api"
)

// colors is a sheet that makes classes and states visible.
func colors() api.Sheet {
	return sheetOf(
		api.Rule{Class: "go", Decls: []api.Decl{literal(api.PropColor, 1), literal(api.PropGap, 1)}},
		api.Rule{Class: "even", Decls: []api.Decl{literal(api.PropColor, 2)}},
		api.Rule{Class: "new", Decls: []api.Decl{literal(api.PropColor, 3), literal(api.PropFontSize, 30)}},
		api.Rule{States: api.StateHovered, Decls: []api.Decl{literal(api.PropBackground, 4)}},
		api.Rule{UnderKind: api.KindButton, Decls: []api.Decl{inherit(api.PropGap)}},
		api.Rule{UnderClass: "new", Decls: []api.Decl{literal(api.PropGrow, 5)}},
	)
}

// expectRestyled checks the result of Restyle after a change of the family, and how many nodes are not reused.
func expectRestyled(t *testing.T, what string, oldStates []api.NodeStates, tree api.Tree, st []api.NodeStates, want int) {
	t.Helper()
	m := api.Mode{Scale: 150}
	before, e := Cascade(colors(), paper(), m, family(t), oldStates)
	if e != api.OK {
		t.Fatalf("P17.4: Cascade: %d", e)
	}
	after, e := Cascade(colors(), paper(), m, tree, st)
	if e != api.OK {
		t.Fatalf("P17.4: %s: Cascade: %d", what, e)
	}
	got, n, e := Restyle(colors(), paper(), m, family(t), oldStates, before, tree, st)
	if e != api.OK || n != want || !slices.Equal(got, after) {
		t.Errorf("P17.5: %s: Restyle = %v, %d, %d, want %v, %d", what, got, n, e, after, want)
	}
}

func TestRestyle(t *testing.T) {
	for _, x := range []struct {
		name   string
		change func(t *api.Tree)
		want   int
	}{
		{"no change", func(t *api.Tree) {}, 0},
		{"a key", func(t *api.Tree) { t.Nodes[0].Key = "k"; t.Nodes[4].Key = "k" }, 0},
		{"another attribute", func(t *api.Tree) {
			t.Nodes[0].Attrs = append(t.Nodes[0].Attrs, api.Attr{Name: "text", Value: text("x")})
		}, 0},
		{"an action", func(t *api.Tree) { t.Nodes[1].Actions = []api.Action{{Event: "press", Handler: "go"}} }, 0},
		{"the order of children", func(t *api.Tree) { slices.Reverse(t.Nodes[0].Kids); slices.Reverse(t.Nodes[3].Kids) }, 0},
		{"a greater Next", func(t *api.Tree) { t.Next = 100 }, 0},
		{"an empty class instead of none", func(t *api.Tree) { t.Nodes[2].Attrs = []api.Attr{{Name: "class", Value: text("")}} }, 0},
		{"a class that is no text instead of none", func(t *api.Tree) { t.Nodes[2].Attrs = []api.Attr{{Name: "class", Value: num(4)}} }, 0},
		{"the class of a leaf", func(t *api.Tree) { t.Nodes[2].Attrs = []api.Attr{{Name: "class", Value: text("new")}} }, 1},
		{"the class of a node with a child", func(t *api.Tree) { t.Nodes[1].Attrs[0].Value = text("new") }, 2},
		{"the class of the root", func(t *api.Tree) { t.Nodes[0].Attrs[0].Value = text("new") }, 7},
		{"no class of the root", func(t *api.Tree) { t.Nodes[0].Attrs = nil }, 7},
		{"a class that changes no style", func(t *api.Tree) { t.Nodes[4].Attrs[0].Value = text("never") }, 2},
		{"the kind of a leaf", func(t *api.Tree) { t.Nodes[6].Kind = api.KindButton }, 1},
		{"the kind of a node with children", func(t *api.Tree) { t.Nodes[3].Kind = api.KindGroup }, 4},
		{"the kind of the root", func(t *api.Tree) { t.Nodes[0].Kind = api.KindDialog }, 7},
		{"a leaf removed", func(t *api.Tree) { t.Nodes[3].Kids = []int{5}; t.Nodes = t.Nodes[:6] }, 0},
		{"a leaf added", func(t *api.Tree) {
			t.Nodes[1].Kids = []int{8, 3}
			t.Nodes, t.Next = append(t.Nodes, api.Node{ID: 8, Parent: 2, Kind: api.KindLabel}), 9
		}, 1},
		{"a leaf under another parent", func(t *api.Tree) {
			t.Nodes[1].Kids, t.Nodes[0].Kids, t.Nodes[2].Parent = nil, []int{2, 4, 3}, 1
		}, 1},
		{"a node with children under another parent", func(t *api.Tree) {
			t.Nodes[0].Kids, t.Nodes[1].Kids, t.Nodes[3].Parent = []int{2}, []int{3, 4}, 2
		}, 4},
		{"two classes exchanged", func(t *api.Tree) { t.Nodes[4].Attrs, t.Nodes[6].Attrs = t.Nodes[6].Attrs, t.Nodes[4].Attrs }, 3},
	} {
		tree := family(t)
		x.change(&tree)
		expectRestyled(t, x.name, nil, tree, nil, x.want)
	}
}

// TestRestyleRoots: a node that was the root is not reused where it is not, and the other way round.
func TestRestyleRoots(t *testing.T) {
	// The list (4) with what it contains is all that is left.
	list := family(t)
	list.Nodes, list.Root = list.Nodes[3:], 4
	list.Nodes[0].Parent = 0
	expectRestyled(t, "another root", nil, list, nil, 4)
	// The root is put into a new one.
	around := family(t)
	around.Nodes[0].Parent = 8
	around.Nodes = append(around.Nodes, api.Node{ID: 8, Kind: api.KindGroup, Kids: []int{1}})
	around.Root, around.Next = 8, 9
	expectRestyled(t, "a root around the former one", nil, around, nil, 8)
	// The root has another ID.
	other := upside(t)
	expectRestyled(t, "other IDs", nil, other, nil, 7)
	one := built(t, element(api.KindGroup, "app"), 1)
	expectRestyled(t, "the root alone", nil, one, nil, 0)
	two := built(t, element(api.KindGroup, "app"), 2)
	expectRestyled(t, "another root alone", nil, two, nil, 1)
}

func TestRestyleStates(t *testing.T) {
	for _, x := range []struct {
		name     string
		old, now []api.NodeStates
		want     int
	}{
		{"the same states", []api.NodeStates{{ID: 4, States: 1}}, []api.NodeStates{{ID: 4, States: 1}}, 0},
		{"states in another order", []api.NodeStates{{ID: 4, States: 1}, {ID: 2, States: 8}}, []api.NodeStates{{ID: 2, States: 8}, {ID: 4, States: 1}}, 0},
		{"no states instead of none", []api.NodeStates{{ID: 4}}, nil, 0},
		{"states that do not count", []api.NodeStates{{ID: 4, States: 1}, {ID: 4, States: 3}}, []api.NodeStates{{ID: 4, States: 1}, {ID: 4}, {ID: 8, States: 1}}, 0},
		{"hovering over a leaf", nil, []api.NodeStates{{ID: 3, States: 1}}, 1},
		{"hovering over a node with children", nil, []api.NodeStates{{ID: 5, States: 1}}, 2},
		{"hovering over the root", nil, []api.NodeStates{{ID: 1, States: 1}}, 7},
		{"from one leaf to another one", []api.NodeStates{{ID: 3, States: 1}}, []api.NodeStates{{ID: 6, States: 1}}, 2},
		{"more states", []api.NodeStates{{ID: 2, States: 1}}, []api.NodeStates{{ID: 2, States: 5}}, 2},
		{"a state that changes no style", nil, []api.NodeStates{{ID: 7, States: 16}}, 1},
		{"the states of all", nil, []api.NodeStates{{ID: 1, States: 4}, {ID: 2, States: 4}, {ID: 6, States: 4}}, 7},
	} {
		expectRestyled(t, x.name, x.old, family(t), x.now, x.want)
	}
}

// TestReused: the styles of reused nodes are those that were passed in, so that they need not be computed.
func TestReused(t *testing.T) {
	strange := Initial()
	strange[api.PropColor] = 77
	var styles []api.Styled
	for id := 1; id <= 7; id++ {
		styles = append(styles, api.Styled{ID: id, Style: strange})
	}
	tree := family(t)
	tree.Nodes[4].Kind = api.KindGroup
	before := slices.Clone(styles)
	l, n, e := Restyle(api.Sheet{}, api.Theme{}, plain(), family(t), nil, styles, tree, nil)
	if e != api.OK || n != 2 || len(l) != 7 || l[0].Style != strange || l[6].Style != strange {
		t.Errorf("P17.5: Restyle = %v, %d, %d", l, n, e)
	}
	if !slices.Equal(styles, before) {
		t.Errorf("R2: the former styles have become %v", styles)
	}
}

func TestRestyleErrors(t *testing.T) {
	right, e := Cascade(colors(), paper(), plain(), family(t), nil)
	if e != api.OK {
		t.Fatalf("P17.4: Cascade: %d", e)
	}
	swapped, low, high, twice := slices.Clone(right), slices.Clone(right), slices.Clone(right), slices.Clone(right)
	slices.Reverse(swapped)
	low[0].ID, high[6].ID, twice[1].ID = 0, 8, 1
	for _, x := range []struct {
		name   string
		styles []api.Styled
	}{
		{"no styles", nil}, {"a style is missing", right[:6]}, {"the first style is missing", right[1:]}, {"one in the middle is missing", slices.Concat(right[:3], right[4:])},
		{"one too many", append(slices.Clone(right), api.Styled{ID: 8})}, {"the last one twice", append(slices.Clone(right), right[6])}, {"the first one twice", twice},
		{"descending", swapped}, {"an ID that is too low", low}, {"an ID that is too high", high},
	} {
		if l, n, e := Restyle(colors(), paper(), plain(), family(t), nil, x.styles, family(t), nil); e != api.ErrState || n != 0 || len(l) > 0 {
			t.Errorf("P17.5: %s: Restyle = %v, %d, %d", x.name, l, n, e)
		}
		// What is wrong with the other arguments comes first.
		if l, n, e := Restyle(colors(), paper(), api.Mode{}, family(t), nil, x.styles, family(t), nil); e != api.ErrRange || n != 0 || len(l) > 0 {
			t.Errorf("P17.5: %s: Restyle at the scale 0 = %v, %d, %d", x.name, l, n, e)
		}
	}
	for _, spoil := range []func(t *api.Tree){
		func(t *api.Tree) { t.Root = 2 }, func(t *api.Tree) { t.Next = 7 }, func(t *api.Tree) { t.Nodes[3].Kind = 0 }, func(t *api.Tree) { t.Nodes[6].Key = "." },
		func(t *api.Tree) { t.Nodes = t.Nodes[:6] }, func(t *api.Tree) { *t = api.Tree{} },
	} {
		broken := family(t)
		spoil(&broken)
		if l, n, e := Restyle(colors(), paper(), plain(), broken, nil, right[:len(broken.Nodes)], family(t), nil); e != api.ErrState || n != 0 || len(l) > 0 {
			t.Errorf("P17.5: Restyle of a former tree that is not valid = %v, %d, %d", l, n, e)
		}
		_, want := Cascade(colors(), paper(), plain(), broken, nil)
		if l, n, e := Restyle(colors(), paper(), plain(), broken, nil, nil, broken, nil); e != want || n != 0 || len(l) > 0 {
			t.Errorf("P17.5: Restyle of two trees that are not valid = %v, %d, %d, want %d", l, n, e, want)
		}
	}
	if l, n, e := Restyle(colors(), paper(), plain(), api.Tree{}, nil, nil, family(t), nil); e != api.ErrState || n != 0 || len(l) > 0 {
		t.Errorf("P17.5: Restyle of no former tree = %v, %d, %d", l, n, e)
	}
}

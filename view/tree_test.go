package view

import (
	"fmt"
	"slices"
	"strings"
	"testing"

	"widgetry/api"
)

// screen is a view with all that a view can have.
func screen() api.View {
	return api.View{
		Kind:    api.KindList,
		Key:     "all",
		Attrs:   []api.Attr{attr("gap", num(4)), attr("items", seq(text("a"), text("b")))},
		Actions: []api.Action{action("long", "open", num(1), seq(num(2))), action("press", "go")},
		Kids: []api.View{
			{Kind: api.KindLabel, Attrs: []api.Attr{attr("text", text("one"))}},
			{Kind: api.KindButton, Key: "b", Kids: []api.View{
				{Kind: api.KindLabel},
				{Kind: api.KindImage, Kids: []api.View{{Kind: api.KindSlider}}},
				{Kind: api.KindLabel},
			}},
			{Kind: api.KindLabel, Key: "l"},
			{Kind: api.KindGroup},
			{Kind: api.KindLabel},
		},
	}
}

// built returns the tree of a valid view.
func built(t *testing.T, v api.View, next int) api.Tree {
	t.Helper()
	tree, e := Build(v, next)
	if e != api.OK {
		t.Fatalf("P14.3: Build: %d", e)
	}
	return tree
}

// renumbered returns the tree of screen with IDs that are not those of the preorder.
func renumbered(t *testing.T) api.Tree {
	tree := built(t, screen(), 1)
	ids := []int{0, 40, 3, 9, 70, 8, 7, 10, 100, 20, 90}
	for i := range tree.Nodes {
		n := &tree.Nodes[i]
		n.ID, n.Parent = ids[n.ID], ids[n.Parent]
		for j, k := range n.Kids {
			n.Kids[j] = ids[k]
		}
	}
	slices.SortFunc(tree.Nodes, func(a, b api.Node) int { return a.ID - b.ID })
	tree.Root, tree.Next = 40, 101
	return tree
}

// show writes a value with all lists; nil and empty lists look the same.
func show(x any) string { return strings.ReplaceAll(fmt.Sprintf("%+v", x), "<nil>", "[]") }

func TestBuild(t *testing.T) {
	tree := built(t, screen(), 5)
	want := api.Tree{Root: 5, Next: 15, Nodes: []api.Node{
		{ID: 5, Kind: api.KindList, Key: "all", Attrs: screen().Attrs, Actions: screen().Actions, Kids: []int{6, 7, 12, 13, 14}},
		{ID: 6, Parent: 5, Kind: api.KindLabel, Attrs: screen().Kids[0].Attrs},
		{ID: 7, Parent: 5, Kind: api.KindButton, Key: "b", Kids: []int{8, 9, 11}},
		{ID: 8, Parent: 7, Kind: api.KindLabel},
		{ID: 9, Parent: 7, Kind: api.KindImage, Kids: []int{10}},
		{ID: 10, Parent: 9, Kind: api.KindSlider},
		{ID: 11, Parent: 7, Kind: api.KindLabel},
		{ID: 12, Parent: 5, Kind: api.KindLabel, Key: "l"},
		{ID: 13, Parent: 5, Kind: api.KindGroup},
		{ID: 14, Parent: 5, Kind: api.KindLabel},
	}}
	if show(tree) != show(want) {
		t.Errorf("P14.3: Build = %s, want %s", show(tree), show(want))
	}
	for _, x := range []struct {
		next int
		want api.Errno
	}{
		{-1 << 63, api.ErrRange}, {-1, api.ErrRange}, {0, api.ErrRange}, {1, api.OK}, {2, api.OK},
		{1<<40 - 401, api.OK}, {1<<40 - 400, api.OK}, {1<<40 - 399, api.ErrRange}, {1 << 40, api.ErrRange}, {1<<63 - 1, api.ErrRange},
	} {
		tree, e := Build(large(399), x.next)
		if e != x.want || e != api.OK && show(tree) != show(api.Tree{}) {
			t.Errorf("P14.3: Build from %d: %d, want %d", x.next, e, x.want)
		}
		if e == api.OK && (tree.Root != x.next || tree.Next != x.next+400 || Check(tree) != api.OK) {
			t.Errorf("P14.3, P14.6: Build from %d: the root %d, Next %d, Check %d", x.next, tree.Root, tree.Next, Check(tree))
		}
	}
}

func TestDescribe(t *testing.T) {
	for _, v := range []api.View{screen(), group(), large(399), nested(16, screen().Kids[0]), group(groups(100)...)} {
		for _, next := range []int{1, 77, 1<<40 - 400} {
			tree := built(t, v, next)
			got, e := Describe(tree)
			if e != api.OK || show(got) != show(v) || !Equal(got, v) {
				t.Errorf("P14.6: Describe = %s, %d, want %s", show(got), e, show(v))
			}
			if e := Check(tree); e != api.OK {
				t.Errorf("P14.6: Check of the tree of %s: %d", show(v), e)
			}
		}
	}
	if got, e := Describe(renumbered(t)); e != api.OK || show(got) != show(screen()) {
		t.Errorf("P14.3: Describe of other IDs = %s, %d", show(got), e)
	}
}

// testCheck checks what all functions that take a tree do with one that may be invalid.
func testCheck(t *testing.T, what string, tree api.Tree, want api.Errno) {
	t.Helper()
	if got := Check(tree); got != want {
		t.Errorf("P14.2: Check of %s: %d, want %d", what, got, want)
	}
	v, e := Describe(tree)
	if e != want || e != api.OK && show(v) != show(api.View{}) {
		t.Errorf("P14.3: Describe of %s: %s, %d, want %d", what, show(v), e, want)
	}
	if got := len(Order(tree)); want != api.OK && got != 0 || want == api.OK && got != len(tree.Nodes) {
		t.Errorf("P14.4: Order of %s has %d IDs", what, got)
	}
	for _, n := range tree.Nodes {
		if want != api.OK && (len(Path(tree, n.ID)) > 0 || Common(tree, n.ID, n.ID) != 0 || PathName(tree, n.ID) != "") {
			t.Errorf("P14.4, P14.5: %s has the path %v, %d, %s", what, Path(tree, n.ID), Common(tree, n.ID, n.ID), PathName(tree, n.ID))
		}
		if found, ok := Find(tree, n.ID); !ok || found.ID != n.ID {
			t.Errorf("P14.4: Find of %d in %s: %s, %t", n.ID, what, show(found), ok)
		}
	}
}

func TestTrees(t *testing.T) {
	for _, x := range []struct {
		what string
		make func(t *api.Tree)
		want api.Errno
	}{
		{"a tree", func(*api.Tree) {}, api.OK},
		{"a tree with a greater Next", func(t *api.Tree) { t.Next = 1000 }, api.OK},
		{"a tree with the greatest Next", func(t *api.Tree) { t.Next = 1 << 40 }, api.OK},
		{"a tree with too great a Next", func(t *api.Tree) { t.Next = 1<<40 + 1 }, api.ErrState},
		{"a tree with the last ID as Next", func(t *api.Tree) { t.Next = 10 }, api.ErrState},
		{"a tree with Next 0", func(t *api.Tree) { t.Next = 0 }, api.ErrState},
		{"no tree", func(t *api.Tree) { *t = api.Tree{} }, api.ErrState},
		{"a tree without nodes", func(t *api.Tree) { t.Nodes = nil }, api.ErrState},
		{"a tree without a root", func(t *api.Tree) { t.Root = 0 }, api.ErrState},
		{"a tree with a root that is not there", func(t *api.Tree) { t.Root = 11 }, api.ErrState},
		{"a tree with an inner node as its root", func(t *api.Tree) { t.Root = 3 }, api.ErrState},
		{"a tree with a root that has itself as its parent", func(t *api.Tree) { t.Nodes[0].Parent = 1 }, api.ErrState},
		{"a tree with a root that has another node as its parent", func(t *api.Tree) { t.Nodes[0].Parent = 3 }, api.ErrState},
		{"a tree with a root that has a parent that is not there", func(t *api.Tree) { t.Nodes[0].Parent = -1 }, api.ErrState},
		{"a tree with two nodes without a parent", func(t *api.Tree) { t.Nodes[9].Parent = 0 }, api.ErrState},
		{"a tree with two roots", func(t *api.Tree) { t.Nodes[9].Parent, t.Nodes[0].Kids = 0, []int{2, 3, 8, 9} }, api.ErrState},
		{"a tree with a node in the wrong order", func(t *api.Tree) { t.Nodes[2], t.Nodes[3] = t.Nodes[3], t.Nodes[2] }, api.ErrState},
		{"a tree with a node twice", func(t *api.Tree) { t.Nodes = slices.Insert(t.Nodes, 4, t.Nodes[4]) }, api.ErrState},
		{"a tree with the ID 0", func(t *api.Tree) {
			t.Nodes = slices.Insert(t.Nodes, 0, api.Node{Parent: 1, Kind: 1})
			t.Nodes[1].Kids = append(t.Nodes[1].Kids, 0)
		}, api.ErrState},
		{"a tree with a negative ID", func(t *api.Tree) {
			t.Nodes = slices.Insert(t.Nodes, 0, api.Node{ID: -1, Parent: 1, Kind: 1})
			t.Nodes[1].Kids = append(t.Nodes[1].Kids, -1)
		}, api.ErrState},
		{"a tree with a child that is not there", func(t *api.Tree) { t.Nodes[0].Kids = append(t.Nodes[0].Kids, 11) }, api.ErrState},
		{"a tree with the child 0", func(t *api.Tree) { t.Nodes[9].Kids = []int{0} }, api.ErrState},
		{"a tree with a child twice", func(t *api.Tree) { t.Nodes[0].Kids = append(t.Nodes[0].Kids, 3) }, api.ErrState},
		{"a tree with a child twice and one missing", func(t *api.Tree) { t.Nodes[0].Kids[4] = 8 }, api.ErrState},
		{"a tree with a child of another node", func(t *api.Tree) { t.Nodes[1].Kids = []int{8} }, api.ErrState},
		{"a tree with a child that is the root", func(t *api.Tree) { t.Nodes[9].Kids = []int{1} }, api.ErrState},
		{"a tree with a node that is its own child", func(t *api.Tree) { t.Nodes[9].Kids = []int{10} }, api.ErrState},
		{"a tree with children that changed their parents", func(t *api.Tree) { t.Nodes[7].Parent, t.Nodes[8].Parent = 9, 8 }, api.ErrState},
		{"a tree with a missing child", func(t *api.Tree) { t.Nodes[2].Kids = []int{4, 5} }, api.ErrState},
		{"a tree with a child whose parent is not there", func(t *api.Tree) { t.Nodes[9].Parent = 11 }, api.ErrState},
		{"a tree with a circle beside it", func(t *api.Tree) {
			t.Nodes = append(t.Nodes, api.Node{ID: 11, Parent: 12, Kind: 1, Kids: []int{12}}, api.Node{ID: 12, Parent: 11, Kind: 1, Kids: []int{11}})
			t.Next = 13
		}, api.ErrState},
		{"a tree with a node beside it that is its own parent", func(t *api.Tree) {
			t.Nodes = append(t.Nodes, api.Node{ID: 11, Parent: 11, Kind: 1, Kids: []int{11}})
			t.Next = 12
		}, api.ErrState},
		{"a tree with children in another order", func(t *api.Tree) { slices.Reverse(t.Nodes[0].Kids) }, api.OK},
		{"a tree with a wrong kind", func(t *api.Tree) { t.Nodes[5].Kind = 14 }, api.ErrKind},
		{"a tree with a wrong key", func(t *api.Tree) { t.Nodes[5].Key = "." }, api.ErrName},
		{"a tree with the same keys", func(t *api.Tree) { t.Nodes[3].Key, t.Nodes[6].Key = "k", "k" }, api.ErrDuplicate},
		{"a tree with a wrong attribute", func(t *api.Tree) { t.Nodes[9].Attrs = []api.Attr{attr("a", num(1<<41))} }, api.ErrRange},
		{"a tree with actions in the wrong order", func(t *api.Tree) { slices.Reverse(t.Nodes[0].Actions) }, api.ErrOrder},
		{"a tree with two wrong nodes", func(t *api.Tree) { t.Nodes[7].Key, t.Nodes[8].Kind = ".", 0 }, api.ErrName},
		{"a tree with two wrong nodes in another order", func(t *api.Tree) {
			t.Nodes[7].Key, t.Nodes[8].Kind = ".", 0
			slices.Reverse(t.Nodes[0].Kids)
		}, api.ErrKind},
		{"a tree with a wrong node and a missing child", func(t *api.Tree) { t.Nodes[0].Kind, t.Nodes[2].Kids = 0, nil }, api.ErrState},
	} {
		tree := built(t, screen(), 1)
		x.make(&tree)
		testCheck(t, x.what, tree, x.want)
	}
	testCheck(t, "a tree with other IDs", renumbered(t), api.OK)
}

func TestTreeSizes(t *testing.T) {
	// chain is a tree in which each node is the only child of the one before.
	chain := func(n int) api.Tree {
		tree := api.Tree{Root: 1, Next: n + 1}
		for i := range n {
			tree.Nodes = append(tree.Nodes, api.Node{ID: i + 1, Parent: i, Kind: 1, Kids: []int{i + 2}})
		}
		tree.Nodes[n-1].Kids = nil
		return tree
	}
	// star is a tree whose root has n children.
	star := func(n int) api.Tree {
		tree := api.Tree{Root: 1, Next: n + 2, Nodes: []api.Node{{ID: 1, Kind: 1}}}
		for i := range n {
			tree.Nodes[0].Kids = append(tree.Nodes[0].Kids, i+2)
			tree.Nodes = append(tree.Nodes, api.Node{ID: i + 2, Parent: 1, Kind: 1})
		}
		return tree
	}
	testCheck(t, "one node", star(0), api.OK)
	testCheck(t, "16 nodes within each other", chain(16), api.OK)
	testCheck(t, "17 nodes within each other", chain(17), api.ErrDepth)
	testCheck(t, "400 nodes within each other", chain(400), api.ErrDepth)
	testCheck(t, "401 nodes within each other", chain(401), api.ErrState)
	testCheck(t, "100 children", star(100), api.OK)
	testCheck(t, "101 children", star(101), api.ErrTooLong)
	testCheck(t, "399 children", star(399), api.ErrTooLong)
	testCheck(t, "400 children", star(400), api.ErrState)
	testCheck(t, "400 nodes", built(t, large(399), 1), api.OK)
	tree := built(t, large(399), 1)
	tree.Nodes = append(tree.Nodes, api.Node{ID: 401, Parent: 400, Kind: 1})
	tree.Nodes[399].Kids, tree.Next = []int{401}, 402
	testCheck(t, "401 nodes", tree, api.ErrState)
}

func TestEqual(t *testing.T) {
	if !Equal(screen(), screen()) {
		t.Error("P14.3: a view is not equal to itself")
	}
	empty := screen()
	empty.Kids[0].Kids, empty.Kids[0].Actions, empty.Kids[1].Attrs = []api.View{}, []api.Action{}, []api.Attr{}
	empty.Actions[1].Args, empty.Attrs[0].Value.L = []api.Value{}, []api.Value{}
	if !Equal(screen(), empty) || !Equal(empty, screen()) {
		t.Error("P14.3: nil and empty lists are not equal")
	}
	for i, change := range []func(v *api.View){
		func(v *api.View) { v.Kind = api.KindGroup },
		func(v *api.View) { v.Key = "some" },
		func(v *api.View) { v.Key = "" },
		func(v *api.View) { v.Attrs = v.Attrs[:1] },
		func(v *api.View) { v.Attrs[0].Name = "a" },
		func(v *api.View) { v.Attrs[0].Value.N = 5 },
		func(v *api.View) { v.Attrs[0].Value = text("4") },
		func(v *api.View) { v.Attrs[1].Value.L[1].S = "c" },
		func(v *api.View) { v.Attrs[1].Value.L = v.Attrs[1].Value.L[:1] },
		func(v *api.View) { v.Actions = v.Actions[:1] },
		func(v *api.View) { v.Actions[1].Event = "release" },
		func(v *api.View) { v.Actions[1].Handler = "open" },
		func(v *api.View) { v.Actions[1].Instance = "/row.0" },
		func(v *api.View) { v.Actions[1].Args = []api.Value{num(0)} },
		func(v *api.View) { v.Actions[0].Args[1].L[0].N = 3 },
		func(v *api.View) { v.Kids = v.Kids[:4] },
		func(v *api.View) { v.Kids[4].Kind = api.KindGroup },
		func(v *api.View) { v.Kids[3], v.Kids[4] = v.Kids[4], v.Kids[3] },
		func(v *api.View) { v.Kids[1].Kids[1].Kids[0].Key = "a" },
	} {
		other := screen()
		change(&other)
		if Validate(other) != api.OK || Equal(screen(), other) || Equal(other, screen()) {
			t.Errorf("P14.3: the change %d is equal: %s", i, show(other))
		}
	}
	wrong := screen()
	wrong.Kids[4].Kind = 0
	if Equal(wrong, wrong) || Equal(wrong, screen()) || Equal(screen(), wrong) || Equal(api.View{}, api.View{}) {
		t.Error("P14.3: a view that is not valid is equal to another one")
	}
}

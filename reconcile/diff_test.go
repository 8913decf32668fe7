package reconcile

import (
	"fmt"
	"slices"
	"strings"
	"testing"

	"widgetry/api"
	"widgetry/view"
)

func num(n int) api.Value { return api.Value{Kind: api.ValueInt, N: n} }

func text(s string) api.Value { return api.Value{Kind: api.ValueText, S: s} }

func seq(l ...api.Value) api.Value { return api.Value{Kind: api.ValueList, L: l} }

func attr(name string, v api.Value) api.Attr { return api.Attr{Name: name, Value: v} }

func action(event, handler string, args ...api.Value) api.Action {
	return api.Action{Event: event, Instance: "/", Handler: handler, Args: args}
}

func group(kids ...api.View) api.View { return api.View{Kind: api.KindGroup, Kids: kids} }

// item returns a view with the key k.
func item(k string, kids ...api.View) api.View {
	return api.View{Kind: api.KindItem, Key: k, Kids: kids}
}

// items returns a list with an item for each letter.
func items(letters string) api.View {
	v := api.View{Kind: api.KindList}
	for _, r := range letters {
		v.Kids = append(v.Kids, item(string(r)))
	}
	return v
}

func label(s string) api.View {
	return api.View{Kind: api.KindLabel, Attrs: []api.Attr{attr("text", text(s))}}
}

func button(l ...api.Action) api.View { return api.View{Kind: api.KindButton, Actions: l} }

// show writes a value with all lists; nil and empty lists look the same.
func show(x any) string { return strings.ReplaceAll(fmt.Sprintf("%+v", x), "<nil>", "[]") }

// built returns the tree of a valid view.
func built(t *testing.T, v api.View, next int) api.Tree {
	t.Helper()
	tree, e := view.Build(v, next)
	if e != api.OK {
		t.Fatalf("Build: %d", e)
	}
	return tree
}

func remove(id int) api.Change { return api.Change{Kind: api.ChangeRemove, ID: id} }

func move(id, before int) api.Change { return api.Change{Kind: api.ChangeMove, ID: id, Before: before} }

// insert returns the change that inserts the node of v.
func insert(id, parent, before int, v api.View) api.Change {
	return api.Change{Kind: api.ChangeInsert, ID: id, Parent: parent, Before: before, View: v.Kind, Key: v.Key, Attrs: v.Attrs, Actions: v.Actions}
}

// update returns the change that gives a node the attributes and actions of v.
func update(id int, v api.View) api.Change {
	return api.Change{Kind: api.ChangeUpdate, ID: id, Attrs: v.Attrs, Actions: v.Actions}
}

// testDiff checks the changes from the view old, with IDs from 1 on, to new, and that they lead there.
func testDiff(t *testing.T, what string, old, new api.View, want ...api.Change) {
	t.Helper()
	tree := built(t, old, 1)
	got, e := Diff(tree, new)
	if e != api.OK || show(got) != show(want) {
		t.Errorf("P15.3: %s: Diff = %s, %d, want %s", what, show(got), e, show(want))
	}
	result, e := Apply(tree, got)
	described, _ := view.Describe(result)
	if e != api.OK || !view.Equal(described, new) {
		t.Errorf("P15.5: %s: Apply = %s, %d", what, show(result), e)
	}
}

func TestMoves(t *testing.T) {
	testDiff(t, "the example 6 of the document", items("abc"), items("bca"), move(2, 0))
	testDiff(t, "nothing", items("abc"), items("abc"))
	testDiff(t, "two that change places", items("ab"), items("ba"), move(2, 0))
	testDiff(t, "the last one to the front", items("abcd"), items("dabc"), move(5, 2))
	testDiff(t, "the reverse", items("abcd"), items("dcba"), move(2, 0), move(3, 2), move(4, 3))
	testDiff(t, "two pairs", items("abcd"), items("badc"), move(4, 0), move(2, 5))
	testDiff(t, "a move before a removed one", items("abc"), items("ca"), remove(3), move(2, 0))
	testDiff(t, "a move and an insert", items("abc"), items("cxa"), remove(3), move(2, 0), insert(5, 1, 2, item("x")))
}

func TestInserts(t *testing.T) {
	testDiff(t, "at the end", items("a"), items("ab"), insert(3, 1, 0, item("b")))
	testDiff(t, "at the front", items("b"), items("ab"), insert(3, 1, 2, item("a")))
	testDiff(t, "from the last one to the first", items("m"), items("xmyz"), insert(3, 1, 0, item("z")), insert(4, 1, 3, item("y")), insert(5, 1, 2, item("x")))
	deep := group(item("a", label("1"), item("b", label("2"))), item("c", label("3")))
	testDiff(t, "a view after its siblings and before its children", group(), deep,
		insert(2, 1, 0, deep.Kids[1]), insert(3, 1, 2, deep.Kids[0]),
		insert(4, 3, 0, item("b")), insert(5, 3, 4, label("1")),
		insert(6, 4, 0, label("2")),
		insert(7, 2, 0, label("3")))
	full := button(action("long", "open", num(1)), action("press", "go"))
	full.Key, full.Attrs = "k", []api.Attr{attr("a", num(1)), attr("b", seq(text("x")))}
	testDiff(t, "all that a view can have", group(), group(full), api.Change{Kind: api.ChangeInsert, ID: 2, Parent: 1, View: api.KindButton, Key: "k", Attrs: full.Attrs, Actions: full.Actions})
}

func TestRemoves(t *testing.T) {
	testDiff(t, "one", items("abc"), items("ac"), remove(3))
	testDiff(t, "all", items("abc"), items(""), remove(2), remove(3), remove(4))
	testDiff(t, "with what is inside", group(item("a", label("1"), item("b")), item("c")), group(item("c")), remove(2))
	testDiff(t, "in preorder of the tree", group(item("a", item("b"), item("c")), item("d"), item("e", item("f"))), group(item("e"), item("a", item("c"))),
		remove(3), remove(5), remove(7), move(2, 0))
	testDiff(t, "one that stands in another place", group(item("a", item("x")), item("b")), group(item("a"), item("b", item("x"))), remove(3), insert(5, 4, 0, item("x")))
}

func TestMatching(t *testing.T) {
	testDiff(t, "another kind of the root", items("a"), group(item("a")), remove(1), insert(3, 0, 0, group()), insert(4, 3, 0, item("a")))
	testDiff(t, "another key of the root", item("a"), item("b"), remove(1), insert(2, 0, 0, item("b")))
	testDiff(t, "a root without a key", item("a", label("1")), item("", label("1")), remove(1), insert(3, 0, 0, item("")), insert(4, 3, 0, label("1")))
	testDiff(t, "another kind with the key", group(item("a")), group(api.View{Kind: api.KindGroup, Key: "a"}), remove(2), insert(3, 1, 0, api.View{Kind: api.KindGroup, Key: "a"}))
	testDiff(t, "a key instead of none", group(item("")), group(item("a")), remove(2), insert(3, 1, 0, item("a")))
	testDiff(t, "no key instead of one", group(item("a")), group(item("")), remove(2), insert(3, 1, 0, item("")))
	testDiff(t, "the first one of a kind without a key", group(label("1"), label("2")), group(label("2")), remove(3), update(2, label("2")))
	testDiff(t, "the last one of a kind without a key", group(label("1")), group(label("0"), label("1")), insert(3, 1, 0, label("1")), update(2, label("0")))
	testDiff(t, "kinds without keys in another order", group(label("1"), button(), label("2")), group(button(), label("1"), label("2")), move(2, 4))
	testDiff(t, "keys do not count among those without one", group(item("a"), item(""), item("b"), item("")), group(item(""), item("a"), item("")), remove(4), move(2, 5))
	testDiff(t, "a kind without a key and a number like a key", group(item("0"), item("")), group(item(""), item("0")), move(2, 0))
}

func TestUpdates(t *testing.T) {
	testDiff(t, "an attribute", label("1"), label("2"), update(1, label("2")))
	both := button(action("press", "go", num(1)))
	both.Attrs = []api.Attr{attr("a", seq(num(1), num(2)))}
	testDiff(t, "nothing", both, both)
	testDiff(t, "all", both, button(), update(1, button()))
	testDiff(t, "from nothing", button(), both, update(1, both))
	for _, change := range []func(v *api.View){
		func(v *api.View) { v.Attrs[0].Name = "b" },
		func(v *api.View) { v.Attrs[0].Value.L[1].N = 3 },
		func(v *api.View) { v.Attrs = append(v.Attrs, attr("b", num(1))) },
		func(v *api.View) { v.Actions[0].Event = "long" },
		func(v *api.View) { v.Actions[0].Handler = "stop" },
		func(v *api.View) { v.Actions[0].Instance = "/a" },
		func(v *api.View) { v.Actions[0].Args = nil },
		func(v *api.View) { v.Actions[0].Args[0] = text("1") },
	} {
		other := button(action("press", "go", num(1)))
		other.Attrs = []api.Attr{attr("a", seq(num(1), num(2)))}
		change(&other)
		testDiff(t, "a part", group(both), group(other), update(2, other))
	}
	empty := both
	empty.Kids, empty.Attrs = []api.View{}, []api.Attr{{Name: "a", Value: api.Value{Kind: api.ValueList, L: []api.Value{{Kind: 1, N: 1, L: []api.Value{}}, num(2)}}}}
	testDiff(t, "empty lists instead of none", both, empty)
	testDiff(t, "an update, then the children, then their updates", group(label("1"), item("a", label("3"))),
		api.View{Kind: api.KindGroup, Attrs: both.Attrs, Kids: []api.View{item("a", label("4"), label("5")), label("2")}},
		update(1, api.View{Attrs: both.Attrs}), move(2, 0), insert(5, 3, 0, label("5")), update(4, label("4")), update(2, label("2")))
}

// TestIDs checks that inserted nodes continue with Next, and that nodes are found whatever their IDs are.
func TestIDs(t *testing.T) {
	tree := api.Tree{Root: 40, Next: 90, Nodes: []api.Node{
		{ID: 3, Parent: 40, Kind: api.KindItem, Key: "b"},
		{ID: 7, Parent: 40, Kind: api.KindItem, Key: "a", Kids: []int{8}},
		{ID: 8, Parent: 7, Kind: api.KindLabel},
		{ID: 40, Kind: api.KindList, Kids: []int{7, 3}},
	}}
	new := items("xba")
	want := []api.Change{remove(8), move(7, 0), insert(90, 40, 3, item("x"))}
	got, e := Diff(tree, new)
	if e != api.OK || show(got) != show(want) {
		t.Errorf("P15.3: Diff = %s, %d, want %s", show(got), e, show(want))
	}
	result, e := Apply(tree, got)
	if e != api.OK || result.Next != 91 || result.Root != 40 || show(result.Nodes[2]) != show(api.Node{ID: 40, Kind: api.KindList, Kids: []int{90, 3, 7}}) {
		t.Errorf("P15.4: Apply = %s, %d", show(result), e)
	}
}

func TestDiffErrors(t *testing.T) {
	tree := func(change func(t *api.Tree)) api.Tree {
		x := built(t, items("ab"), 1)
		change(&x)
		return x
	}
	good, wrong := tree(func(*api.Tree) {}), tree(func(t *api.Tree) { t.Nodes[1].Key = "." })
	full := tree(func(t *api.Tree) { t.Next = 1<<40 - 399 })
	for _, x := range []struct {
		what string
		t    api.Tree
		v    api.View
		want api.Errno
	}{
		{"no tree", api.Tree{}, items("a"), api.ErrState},
		{"no view", good, api.View{}, api.ErrKind},
		{"neither", api.Tree{}, api.View{}, api.ErrState},
		{"a wrong tree", wrong, items("a"), api.ErrName},
		{"a wrong tree and a wrong view", wrong, api.View{}, api.ErrName},
		{"equal keys", good, items("aa"), api.ErrDuplicate},
		{"Next at the limit", tree(func(t *api.Tree) { t.Next = 1<<40 - 400 }), items("c"), api.OK},
		{"Next beyond the limit", full, items("c"), api.ErrRange},
		{"Next beyond the limit where nothing changes", full, items("ab"), api.ErrRange},
		{"Next far beyond the limit", tree(func(t *api.Tree) { t.Next = 1 << 40 }), items("c"), api.ErrRange},
		{"Next beyond the limit and a wrong view", full, items("aa"), api.ErrDuplicate},
	} {
		l, e := Diff(x.t, x.v)
		if e != x.want || e != api.OK && len(l) > 0 {
			t.Errorf("P15.3: %s: Diff = %s, %d, want %d", x.what, show(l), e, x.want)
		}
	}
}

// TestLeastMoves compares the number of moves with the least one, which is found by trying all of them.
func TestLeastMoves(t *testing.T) {
	for _, letters := range []string{"a", "ab", "abc", "abcd", "abcde", "abcdef"} {
		least := map[string]int{letters: 0}
		reached := []string{letters}
		for len(reached) > 0 {
			s := reached[0]
			reached = reached[1:]
			for i := range s {
				rest := s[:i] + s[i+1:]
				for j := range s {
					moved := rest[:j] + s[i:i+1] + rest[j:]
					if _, ok := least[moved]; !ok {
						least[moved] = least[s] + 1
						reached = append(reached, moved)
					}
				}
			}
		}
		tree := built(t, items(letters), 1)
		for s, n := range least {
			l, e := Diff(tree, items(s))
			if e != api.OK || len(l) != n || slices.ContainsFunc(l, func(c api.Change) bool { return c.Kind != api.ChangeMove }) {
				t.Errorf("P15.5: from %s to %s: %s, %d, want %d moves", letters, s, show(l), e, n)
			}
		}
	}
}

package reconcile

import (
	"math"
	"slices"
	"testing"

	"widgetry/api"
	"widgetry/view"
)

// family is the list 1 with the items a (2, with the labels 3 and 4), b (5) and c (6, with the button 7).
func family() api.View {
	return api.View{Kind: api.KindList, Kids: []api.View{item("a", label("1"), label("2")), item("b"), item("c", button(action("press", "go")))}}
}

func TestApply(t *testing.T) {
	for _, x := range []struct {
		what string
		l    []api.Change
		want api.View
		ids  []int // in preorder
		next int
	}{
		{"nothing", nil, family(), []int{1, 2, 3, 4, 5, 6, 7}, 8},
		{"remove", []api.Change{remove(2)}, api.View{Kind: api.KindList, Kids: family().Kids[1:]}, []int{1, 5, 6, 7}, 8},
		{"remove the last one", []api.Change{remove(7), remove(6)}, api.View{Kind: api.KindList, Kids: family().Kids[:2]}, []int{1, 2, 3, 4, 5}, 8},
		{"insert at the end", []api.Change{insert(8, 5, 0, label("x"))}, with(func(v *api.View) { v.Kids[1].Kids = []api.View{label("x")} }), []int{1, 2, 3, 4, 5, 8, 6, 7}, 9},
		{"insert before", []api.Change{insert(20, 2, 4, label("x"))}, with(func(v *api.View) { v.Kids[0].Kids = []api.View{label("1"), label("x"), label("2")} }), []int{1, 2, 3, 20, 4, 5, 6, 7}, 21},
		{"insert in front", []api.Change{insert(8, 1, 2, item("x"))}, with(func(v *api.View) { v.Kids = slices.Insert(v.Kids, 0, item("x")) }), []int{1, 8, 2, 3, 4, 5, 6, 7}, 9},
		{"insert after a removal", []api.Change{remove(5), insert(5, 1, 0, item("b"))}, with(func(v *api.View) { v.Kids[1], v.Kids[2] = v.Kids[2], v.Kids[1] }), []int{1, 2, 3, 4, 6, 7, 5}, 8},
		{"insert into what was inserted", []api.Change{insert(9, 1, 0, group()), insert(8, 9, 0, label("x"))}, with(func(v *api.View) { v.Kids = append(v.Kids, group(label("x"))) }), []int{1, 2, 3, 4, 5, 6, 7, 9, 8}, 10},
		{"move to the end", []api.Change{move(2, 0)}, with(func(v *api.View) { v.Kids = append(v.Kids[1:], v.Kids[0]) }), []int{1, 5, 6, 7, 2, 3, 4}, 8},
		{"move before", []api.Change{move(6, 2)}, with(func(v *api.View) { v.Kids = []api.View{v.Kids[2], v.Kids[0], v.Kids[1]} }), []int{1, 6, 7, 2, 3, 4, 5}, 8},
		{"move to the same place", []api.Change{move(2, 5), move(6, 0), move(7, 0)}, family(), []int{1, 2, 3, 4, 5, 6, 7}, 8},
		{"move a few times", []api.Change{move(6, 2), move(5, 6), move(2, 5)}, with(func(v *api.View) {}), []int{1, 2, 3, 4, 5, 6, 7}, 8},
		{"update", []api.Change{update(7, label("x"))}, with(func(v *api.View) { v.Kids[2].Kids[0].Actions, v.Kids[2].Kids[0].Attrs = nil, label("x").Attrs }), []int{1, 2, 3, 4, 5, 6, 7}, 8},
		{"update twice", []api.Change{update(5, label("x")), update(5, button())}, family(), []int{1, 2, 3, 4, 5, 6, 7}, 8},
		{"another root", []api.Change{remove(1), insert(3, 0, 0, group()), insert(1, 3, 0, label("x"))}, group(label("x")), []int{3, 1}, 8},
		{"fields that do not matter", []api.Change{
			{Kind: api.ChangeRemove, ID: 5, Parent: 99, Before: 99, View: 99, Key: ".", Attrs: []api.Attr{{}}, Actions: []api.Action{{}}},
			{Kind: api.ChangeMove, ID: 2, Parent: 99, View: 99, Key: ".", Attrs: []api.Attr{{}}, Actions: []api.Action{{}}},
			{Kind: api.ChangeUpdate, ID: 1, Parent: 99, Before: 99, View: 99, Key: "."},
		}, with(func(v *api.View) { v.Kids = []api.View{v.Kids[2], v.Kids[0]} }), []int{1, 6, 7, 2, 3, 4}, 8},
		{"too many children and kinds that do not exist for a while", []api.Change{insert(9, 1, 0, item("a")), insert(10, 9, 0, api.View{Kind: 99, Key: "..."}), remove(9)}, family(), []int{1, 2, 3, 4, 5, 6, 7}, 11},
	} {
		tree := built(t, family(), 1)
		before := show(tree)
		got, e := Apply(tree, x.l)
		described, _ := view.Describe(got)
		if e != api.OK || !view.Equal(described, x.want) || !slices.Equal(view.Order(got), x.ids) || got.Next != x.next || got.Root != x.ids[0] {
			t.Errorf("P15.4: %s: Apply = %s, %d, want %s with the IDs %v and Next %d", x.what, show(got), e, show(x.want), x.ids, x.next)
		}
		if show(tree) != before {
			t.Errorf("R2: %s: the tree has changed from %s to %s", x.what, before, show(tree))
		}
	}
}

// with returns family after a change.
func with(change func(v *api.View)) api.View {
	v := family()
	change(&v)
	return v
}

func TestNext(t *testing.T) {
	tree := built(t, family(), 1)
	tree.Next = 100
	for _, x := range []struct{ id, next int }{{8, 100}, {99, 100}, {100, 101}, {101, 102}, {1<<40 - 1, 1 << 40}} {
		got, e := Apply(tree, []api.Change{insert(x.id, 1, 0, group())})
		if e != api.OK || got.Next != x.next || view.Check(got) != api.OK {
			t.Errorf("P15.4: Next after the ID %d is %d, want %d (%d)", x.id, got.Next, x.next, e)
		}
		got, e = Apply(tree, []api.Change{insert(x.id, 1, 0, group()), remove(x.id)})
		if e != api.OK || got.Next != x.next || len(got.Nodes) != 7 {
			t.Errorf("P15.4: Next after the ID %d, which is removed, is %d, want %d (%d)", x.id, got.Next, x.next, e)
		}
	}
}

func TestApplyErrors(t *testing.T) {
	other := func(c api.Change, kind int) api.Change {
		c.Kind = kind
		return c
	}
	for _, x := range []struct {
		what string
		l    []api.Change
		want api.Errno
	}{
		{"the kind 0", []api.Change{{ID: 2}}, api.ErrKind},
		{"the kind 5", []api.Change{{Kind: 5, ID: 2}}, api.ErrKind},
		{"a negative kind", []api.Change{{Kind: -1, ID: 2}}, api.ErrKind},
		{"a strange kind", []api.Change{{Kind: math.MinInt, ID: 99}}, api.ErrKind},
		{"a wrong kind after a change", []api.Change{remove(2), {Kind: 5}}, api.ErrKind},
		{"remove what is not there", []api.Change{remove(8)}, api.ErrMissing},
		{"remove 0", []api.Change{remove(0)}, api.ErrMissing},
		{"remove twice", []api.Change{remove(5), remove(5)}, api.ErrMissing},
		{"remove what was inside", []api.Change{remove(2), remove(3)}, api.ErrMissing},
		{"remove the last one inside", []api.Change{remove(2), remove(4)}, api.ErrMissing},
		{"update what is not there", []api.Change{update(8, label("x"))}, api.ErrMissing},
		{"update 0", []api.Change{update(0, label("x"))}, api.ErrMissing},
		{"update what was removed", []api.Change{remove(1), update(7, label("x"))}, api.ErrMissing},
		{"move what is not there", []api.Change{move(8, 0)}, api.ErrMissing},
		{"move 0", []api.Change{move(0, 0)}, api.ErrMissing},
		{"move before what is not there", []api.Change{move(2, 8)}, api.ErrMissing},
		{"move before a child of another node", []api.Change{move(2, 7)}, api.ErrMissing},
		{"move before the parent", []api.Change{move(3, 2)}, api.ErrMissing},
		{"move before the root", []api.Change{move(2, 1)}, api.ErrMissing},
		{"move before a negative ID", []api.Change{move(2, -1)}, api.ErrMissing},
		{"move before itself", []api.Change{move(2, 2)}, api.ErrMissing},
		{"move the root", []api.Change{move(1, 0)}, api.ErrMissing},
		{"move the root before itself", []api.Change{move(1, 1)}, api.ErrMissing},
		{"move the root before a child", []api.Change{move(1, 2)}, api.ErrMissing},
		{"move before what was removed", []api.Change{remove(5), move(2, 5)}, api.ErrMissing},
		{"insert without a parent", []api.Change{insert(8, 9, 0, group())}, api.ErrMissing},
		{"insert with a negative parent", []api.Change{insert(8, -1, 0, group())}, api.ErrMissing},
		{"insert into itself", []api.Change{insert(8, 8, 0, group())}, api.ErrMissing},
		{"insert into what was removed", []api.Change{remove(2), insert(8, 3, 0, group())}, api.ErrMissing},
		{"insert before what is not there", []api.Change{insert(8, 1, 9, group())}, api.ErrMissing},
		{"insert before itself", []api.Change{insert(8, 1, 8, group())}, api.ErrMissing},
		{"insert before a child of another node", []api.Change{insert(8, 1, 3, group())}, api.ErrMissing},
		{"insert before the parent", []api.Change{insert(8, 2, 2, group())}, api.ErrMissing},
		{"insert before the root", []api.Change{insert(8, 1, 1, group())}, api.ErrMissing},
		{"insert beside the root", []api.Change{insert(8, 0, 1, group())}, api.ErrMissing},
		{"insert a root before a node", []api.Change{remove(1), insert(8, 0, 1, group())}, api.ErrMissing},
		{"insert an ID that exists before what is not there", []api.Change{insert(2, 1, 9, group())}, api.ErrMissing},
		{"insert an ID that is too great before what is not there", []api.Change{insert(1<<40, 1, 9, group())}, api.ErrMissing},
		{"insert an ID that exists", []api.Change{insert(7, 1, 0, group())}, api.ErrDuplicate},
		{"insert an ID that exists into itself", []api.Change{insert(7, 7, 0, group())}, api.ErrDuplicate},
		{"insert twice", []api.Change{insert(8, 1, 0, group()), insert(8, 2, 0, group())}, api.ErrDuplicate},
		{"insert the root's ID", []api.Change{insert(1, 2, 3, group())}, api.ErrDuplicate},
		{"insert a second root", []api.Change{insert(8, 0, 0, group())}, api.ErrDuplicate},
		{"insert a second root that is inserted", []api.Change{remove(1), insert(8, 0, 0, group()), insert(9, 0, 0, group())}, api.ErrDuplicate},
		{"insert a second root with the ID 0", []api.Change{insert(0, 0, 0, group())}, api.ErrDuplicate},
		{"insert the ID 0", []api.Change{insert(0, 1, 0, group())}, api.ErrRange},
		{"insert a root with the ID 0", []api.Change{remove(1), insert(0, 0, 0, group())}, api.ErrRange},
		{"insert a negative ID", []api.Change{insert(-1, 1, 0, group())}, api.ErrRange},
		{"insert the least ID", []api.Change{insert(math.MinInt, 1, 0, group())}, api.ErrRange},
		{"insert the ID MaxNumber", []api.Change{insert(1<<40, 1, 0, group())}, api.ErrRange},
		{"insert the greatest ID", []api.Change{insert(math.MaxInt, 1, 2, group())}, api.ErrRange},
		{"no root", []api.Change{remove(1)}, api.ErrState},
		{"a wrong kind of view", []api.Change{insert(8, 1, 0, api.View{})}, api.ErrKind},
		{"a wrong key", []api.Change{insert(8, 1, 0, item("."))}, api.ErrName},
		{"a key twice", []api.Change{insert(8, 1, 0, item("a"))}, api.ErrDuplicate},
		{"a wrong attribute", []api.Change{update(3, api.View{Attrs: []api.Attr{attr("a", num(1<<41))}})}, api.ErrRange},
		{"wrong actions", []api.Change{update(3, api.View{Actions: []api.Action{action("b", "go"), action("a", "go")}})}, api.ErrOrder},
		{"a wrong result and a wrong change", []api.Change{remove(1), remove(1)}, api.ErrMissing},
		{"two wrong changes", []api.Change{insert(0, 1, 0, group()), remove(9)}, api.ErrRange},
	} {
		got, e := Apply(built(t, family(), 1), x.l)
		if e != x.want || show(got) != show(api.Tree{}) {
			t.Errorf("P15.4: %s: Apply = %s, %d, want %d", x.what, show(got), e, x.want)
		}
		wrong := built(t, family(), 1)
		wrong.Nodes[3].Key = "/"
		if got, e := Apply(wrong, x.l); e != api.ErrName || show(got) != show(api.Tree{}) {
			t.Errorf("P15.4: %s: Apply to a tree that is not valid = %s, %d", x.what, show(got), e)
		}
		if got, e := Apply(api.Tree{}, x.l); e != api.ErrState || show(got) != show(api.Tree{}) {
			t.Errorf("P15.4: %s: Apply to no tree = %s, %d", x.what, show(got), e)
		}
		// What is wrong with a change of another kind is not wrong with a removal or an update.
		c := x.l[0]
		for _, kind := range []int{api.ChangeRemove, api.ChangeUpdate} {
			_, e := Apply(built(t, family(), 1), []api.Change{other(c, kind), {}})
			want := api.ErrKind
			if c.ID < 1 || c.ID > 7 {
				want = api.ErrMissing
			}
			if e != want {
				t.Errorf("P15.4: %s as the kind %d: %d, want %d", x.what, kind, e, want)
			}
		}
	}
}

// TestSizes checks the limits of trees, which hold at the end only.
func TestSizes(t *testing.T) {
	tree := built(t, group(), 1)
	var l, chain []api.Change
	for i := range 399 {
		l = append(l, insert(i+2, 1+i/100*100, 0, group()))
		chain = append(chain, insert(i+2, i+1, 0, group()))
	}
	if got, e := Apply(tree, l); e != api.OK || len(got.Nodes) != 400 {
		t.Errorf("P15.4: 400 nodes: %d, %d", len(got.Nodes), e)
	}
	if _, e := Apply(tree, append(slices.Clone(l), insert(1000, 2, 0, group()))); e != api.ErrState {
		t.Errorf("P15.4: 401 nodes: %d", e)
	}
	if got, e := Apply(tree, append(slices.Clone(l), insert(1000, 2, 0, group()), remove(400))); e != api.OK || len(got.Nodes) != 400 {
		t.Errorf("P15.4: 401 nodes for a while: %d, %d", len(got.Nodes), e)
	}
	if _, e := Apply(tree, append(slices.Clone(l[:100]), insert(1000, 1, 0, group()))); e != api.ErrTooLong {
		t.Errorf("P15.4: 101 children: %d", e)
	}
	if got, e := Apply(tree, chain[:15]); e != api.OK || len(got.Nodes) != 16 {
		t.Errorf("P15.4: 16 nodes within each other: %d, %d", len(got.Nodes), e)
	}
	if _, e := Apply(tree, chain[:16]); e != api.ErrDepth {
		t.Errorf("P15.4: 17 nodes within each other: %d", e)
	}
	if got, e := Apply(tree, append(slices.Clone(chain), remove(17))); e != api.OK || len(got.Nodes) != 16 || got.Next != 401 {
		t.Errorf("P15.4: 400 nodes within each other for a while: %d, %d", len(got.Nodes), e)
	}
}

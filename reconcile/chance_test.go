package reconcile

import (
	"math/rand/v2"
	"slices"
	"strings"
	"testing"

	"widgetry/api"
	"widgetry/view"
)

// maker makes views, trees and changes by chance, the same in each run.
type maker struct{ *rand.Rand }

func newMaker(seed uint64) maker { return maker{rand.New(rand.NewPCG(15, seed))} }

func pick[T any](m maker, l ...T) T { return l[m.IntN(len(l))] }

func oneIn(m maker, n int) bool { return m.IntN(n) == 0 }

func (m maker) attrs() []api.Attr {
	var l []api.Attr
	for _, s := range []string{"gap", "text"} {
		if oneIn(m, 4) {
			l = append(l, attr(s, pick(m, num(1), num(2), text("a"), seq(seq(text("b")), seq()))))
		}
	}
	return l
}

func (m maker) actions() []api.Action {
	if !oneIn(m, 5) {
		return nil
	}
	return []api.Action{action(pick(m, "long", "press"), "go", pick(m, num(1), seq(num(1))))}
}

// views returns a valid view with n views inside, nested up to that depth.
func (m maker) views(n, depth int) api.View {
	v := api.View{Kind: pick(m, 1, 1, 2), Attrs: m.attrs(), Actions: m.actions()}
	keys := strings.Split("abcdefgh", "")
	for n > 0 && depth > 1 {
		inside := m.IntN(n) / (1 + m.IntN(3))
		kid := m.views(inside, depth-1)
		if len(keys) > 0 && !oneIn(m, 3) {
			i := m.IntN(len(keys))
			kid.Key = keys[i]
			keys = slices.Delete(keys, i, i+1)
		}
		v.Kids = append(v.Kids, kid)
		n -= inside + 1
	}
	return v
}

// inside returns one of the views inside v, or v itself.
func (m maker) inside(v *api.View) *api.View {
	for len(v.Kids) > 0 && !oneIn(m, 3) {
		v = &v.Kids[m.IntN(len(v.Kids))]
	}
	return v
}

// change changes a part of a view, which may become invalid. The view shares no lists with others.
func (m maker) change(v *api.View) {
	x := m.inside(v)
	switch k := m.IntN(20); {
	case k < 6:
		m.Shuffle(len(x.Kids), func(i, j int) { x.Kids[i], x.Kids[j] = x.Kids[j], x.Kids[i] })
	case k < 9 && len(x.Kids) > 0:
		i := m.IntN(len(x.Kids))
		x.Kids = slices.Delete(x.Kids, i, i+1)
	case k < 12:
		kid := m.views(m.IntN(3), 3)
		kid.Key = pick(m, "", "i", "j", "k", "a")
		x.Kids = slices.Insert(x.Kids, m.IntN(len(x.Kids)+1), kid)
	case k < 14:
		x.Attrs = m.attrs()
	case k < 16:
		x.Actions = m.actions()
	case k < 18:
		x.Kind = pick(m, 1, 2, 3)
	case k < 19 || !oneIn(m, 10):
		x.Key = pick(m, "", "a", "x")
	default:
		x.Key = "."
	}
}

// renumbered returns a tree with other IDs, in another order.
func (m maker) renumbered(t api.Tree) api.Tree {
	ids := map[int]int{0: 0}
	for i, n := range m.Perm(len(t.Nodes)) {
		ids[t.Nodes[i].ID] = 3*n + 1 + m.IntN(3)
	}
	for i := range t.Nodes {
		n := &t.Nodes[i]
		n.ID, n.Parent = ids[n.ID], ids[n.Parent]
		for j, k := range n.Kids {
			n.Kids[j] = ids[k]
		}
	}
	slices.SortFunc(t.Nodes, func(a, b api.Node) int { return a.ID - b.ID })
	t.Root = ids[t.Root]
	t.Next = 1 + t.Nodes[len(t.Nodes)-1].ID + m.IntN(3)
	return t
}

// tree returns a valid tree and its view, which share no lists.
func (m maker) tree(t *testing.T) (api.Tree, api.View) {
	t.Helper()
	tree := built(t, m.views(m.IntN(20), 2+m.IntN(5)), 1)
	if oneIn(m, 40) {
		tree = built(t, m.views(m.IntN(400), 5), 1)
	}
	if oneIn(m, 2) {
		tree = m.renumbered(tree)
	}
	v, e := view.Describe(tree)
	if e != api.OK {
		t.Fatalf("Describe: %d", e)
	}
	return tree, v
}

// TestDiffByChance compares Diff with its reading, and applies the changes (P15.5).
func TestDiffByChance(t *testing.T) {
	m, seen, kinds := newMaker(2), map[api.Errno]int{}, map[int]int{}
	for range 3000 {
		tree, v := m.tree(t)
		if oneIn(m, 30) {
			tree.Next = pick(m, 1<<40-400, 1<<40-399)
		}
		for range m.IntN(8) {
			m.change(&v)
		}
		before := show(tree) + show(v)
		var want []api.Change
		e := errorOf(func() { want = diffRead(tree, v) })
		got, f := Diff(tree, v)
		if f != e || show(got) != show(want) {
			t.Fatalf("P15.3: Diff(%s, %s) = %s, %d, want %s, %d", show(tree), show(v), show(got), f, show(want), e)
		}
		seen[e]++
		if e != api.OK {
			continue
		}
		for _, c := range got {
			kinds[c.Kind]++
		}
		result, e := Apply(tree, got)
		described, _ := view.Describe(result)
		if e != api.OK || !view.Equal(described, v) {
			t.Fatalf("P15.5: Apply(%s, %s) = %s, %d, which does not describe %s", show(tree), show(got), show(result), e, show(v))
		}
		testIdentity(t, tree, result)
		if again, e := Diff(result, v); e != api.OK && result.Next <= 1<<40-400 || len(again) > 0 {
			t.Fatalf("P15.5: Diff of %s and its own description = %s, %d", show(result), show(again), e)
		}
		if show(tree)+show(v) != before {
			t.Fatalf("R2: %s has changed", before)
		}
	}
	if seen[api.OK] < 1500 || seen[api.ErrName] < 10 || seen[api.ErrDuplicate] < 10 || seen[api.ErrRange] < 10 {
		t.Errorf("P15.3: the errors %v are too few", seen)
	}
	for kind := api.ChangeRemove; kind <= api.ChangeUpdate; kind++ {
		if kinds[kind] < 500 {
			t.Errorf("P15.3: only %d changes of the kind %d", kinds[kind], kind)
		}
	}
}

// testIdentity checks that nodes keep their IDs if and only if they match.
func testIdentity(t *testing.T, before, after api.Tree) {
	t.Helper()
	v, _ := view.Describe(before)
	w, _ := view.Describe(after)
	old, new := members(v, view.Order(before)), members(w, view.Order(after))
	for _, m := range new {
		other := named(old, m.name)
		if other != nil && other.id != m.id || other == nil && m.id < before.Next {
			t.Fatalf("P15.5: the node %d (%s) of %s had another ID in %s", m.id, m.name, show(after), show(before))
		}
	}
}

// step returns a change of a tree, which is often possible.
func (m maker) step(t api.Tree) api.Change {
	ids := []int{0, t.Next, t.Next + 2}
	for _, n := range t.Nodes {
		ids = append(ids, n.ID)
	}
	if oneIn(m, 20) {
		ids = append(ids, -1, 1<<40, 1<<40-1)
	}
	n := t.Nodes[m.IntN(len(t.Nodes))]
	c := api.Change{Kind: 1 + m.IntN(4), ID: n.ID, Parent: n.ID, View: pick(m, 1, 2), Attrs: m.attrs(), Actions: m.actions()}
	if oneIn(m, 3) {
		c.Key = pick(m, "a", "x", "y", "z")
	}
	if len(n.Kids) > 0 && !oneIn(m, 3) {
		c.Before = pick(m, n.Kids...)
	}
	switch c.Kind {
	case api.ChangeInsert:
		c.ID = t.Next + m.IntN(5)
	case api.ChangeMove:
		c.ID = pick(m, append(n.Kids, n.ID)...)
	}
	for oneIn(m, 6) {
		*pick(m, &c.ID, &c.Parent, &c.Before) = pick(m, ids...)
	}
	if oneIn(m, 40) {
		*pick(m, &c.Kind, &c.View) = pick(m, 0, 5, -1, 14)
	}
	if oneIn(m, 40) {
		c.Key = "."
	}
	return c
}

// changes returns a list of changes.
func (m maker) changes(t api.Tree) []api.Change {
	var l []api.Change
	if oneIn(m, 20) {
		l = []api.Change{remove(t.Root), {Kind: api.ChangeInsert, ID: t.Next, View: 1}}
	}
	now := t
	for range m.IntN(7) {
		// Each change is made for the tree as it is before it.
		if next, e := Apply(t, l); e == api.OK {
			now = next
		}
		l = append(l, m.step(now))
	}
	return l
}

// TestApplyByChance compares Apply with its reading.
func TestApplyByChance(t *testing.T) {
	m, seen, performed := newMaker(3), map[api.Errno]int{}, 0
	for range 8000 {
		tree := built(t, m.views(m.IntN(8), 4), 1)
		l := m.changes(tree)
		if oneIn(m, 100) {
			tree.Nodes[m.IntN(len(tree.Nodes))].Parent = 1
		}
		before := show(tree) + show(l)
		var want api.Tree
		e := errorOf(func() { want = applyRead(tree, l) })
		got, f := Apply(tree, l)
		if f != e || show(got) != show(want) {
			t.Fatalf("P15.4: Apply(%s, %s) = %s, %d, want %s, %d", show(tree), show(l), show(got), f, show(want), e)
		}
		if show(tree)+show(l) != before {
			t.Fatalf("R2: %s has changed", before)
		}
		seen[e]++
		if e == api.OK {
			performed += len(l)
		}
	}
	for _, e := range []api.Errno{api.OK, api.ErrKind, api.ErrMissing, api.ErrDuplicate, api.ErrRange, api.ErrState, api.ErrName} {
		if seen[e] < 30 {
			t.Errorf("P15.4: the error %d occurs only %d times", e, seen[e])
		}
	}
	if performed < 5000 {
		t.Errorf("P15.4: only %d changes are performed: %v", performed, seen)
	}
}

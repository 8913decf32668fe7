package view

import (
	"fmt"
	"math/rand/v2"
	"slices"
	"strings"
	"testing"

	"widgetry/api"
	"widgetry/expr"
)

// maker makes views and trees by chance, the same in each run.
type maker struct{ *rand.Rand }

func newMaker(seed uint64) maker { return maker{rand.New(rand.NewPCG(14, seed))} }

func pick[T any](m maker, l ...T) T { return l[m.IntN(len(l))] }

func oneIn(m maker, n int) bool { return m.IntN(n) == 0 }

func (m maker) value(depth int) api.Value {
	switch m.IntN(5) {
	case 0:
		return truth(m.IntN(2))
	case 1:
		return text(pick(m, "", "a", "öß", strings.Repeat("x", 2000)))
	case 2:
		if depth > 0 {
			return seq(slices.Repeat([]api.Value{m.value(depth - 1)}, m.IntN(3))...)
		}
	}
	return num(pick(m, -1<<40, -1, 0, 1, 2, 1<<40))
}

// names returns names in ascending order.
func (m maker) names(most int) []string {
	all := []string{"A", "a", "a-b", "b", "label", "text", strings.Repeat("z", 24)}
	var l []string
	for _, s := range all {
		if oneIn(m, 2) && len(l) < most {
			l = append(l, s)
		}
	}
	return l
}

// view returns a valid view without children.
func (m maker) view() api.View {
	v := api.View{Kind: 1 + m.IntN(13)}
	if oneIn(m, 3) {
		v.Kind = api.KindGroup
	}
	for _, s := range m.names(m.IntN(3)) {
		v.Attrs = append(v.Attrs, attr(s, m.value(2)))
	}
	for _, s := range m.names(m.IntN(3)) {
		a := api.Action{Event: s, Instance: pick(m, "", "/", "/a", strings.Repeat("/", 400)), Handler: pick(m, "go", "open")}
		for range m.IntN(3) {
			a.Args = append(a.Args, m.value(1))
		}
		v.Actions = append(v.Actions, a)
	}
	return v
}

// views returns a valid view with up to n views inside, nested up to that depth.
func (m maker) views(n, depth int) api.View {
	v := m.view()
	keys := []string{"a", "b", "0", "-", "A", strings.Repeat("k", 24)}
	for n > 0 && depth > 1 && len(v.Kids) < 100 {
		inside := m.IntN(n)
		if oneIn(m, 3) {
			inside = n - 1
		}
		kid := m.views(inside, depth-1)
		if len(keys) > 0 && oneIn(m, 2) {
			i := m.IntN(len(keys))
			kid.Key = keys[i]
			keys = slices.Delete(keys, i, i+1)
		}
		v.Kids = append(v.Kids, kid)
		n -= inside + 1
	}
	return v
}

// inside returns one of the views inside v, or v itself.
func (m maker) inside(v *api.View) *api.View {
	for len(v.Kids) > 0 && !oneIn(m, 4) {
		v = &v.Kids[m.IntN(len(v.Kids))]
	}
	return v
}

// strange returns a value, which is often not valid.
func (m maker) strange() api.Value {
	return pick(m, api.Value{}, num(1<<41), truth(2), text("\xff"), text(strings.Repeat("x", 2001)), seq(num(1), text("")), seq(num(1)), api.Value{Kind: api.ValueText, N: 1})
}

// spoil changes a part of a view.
func (m maker) spoil(v *api.View) {
	x := m.inside(v)
	name := pick(m, "", "0", "a", "b", "text", strings.Repeat("a", 25), "a.")
	switch k := m.IntN(12); {
	case k == 0:
		x.Kind = pick(m, -1, 0, 1, 13, 14)
	case k == 1 || k == 2:
		x.Key = pick(m, "", "a", "b", "#", "a/b", strings.Repeat("k", 25))
	case k == 3:
		x.Attrs = append(slices.Clone(x.Attrs), attr(name, m.strange()))
	case k == 4:
		slices.Reverse(x.Attrs)
	case k == 5:
		x.Actions = append(slices.Clone(x.Actions), action(name, pick(m, "go", "", "1"), m.strange()))
	case k == 6:
		slices.Reverse(x.Actions)
	case k == 7 && len(x.Actions) > 0:
		a := &x.Actions[m.IntN(len(x.Actions))]
		*pick(m, &a.Event, &a.Handler, &a.Instance) = pick(m, name, strings.Repeat("/", 401))
		a.Args = append(slices.Clone(a.Args), m.strange())
	case k == 8:
		x.Kids = append(slices.Clone(x.Kids), slices.Repeat([]api.View{{Kind: m.IntN(8)}}, m.IntN(103))...)
	case k == 9:
		x.Attrs = append(slices.Clone(x.Attrs), named(pick(m, 20, 24, 25), func(s string) api.Attr { return attr(s, num(1)) })...)
	case k == 10:
		*x = nested(1+m.IntN(16), *x)
	default:
		x.Kids = append(slices.Clone(x.Kids), keyed(pick(m, "a", "b", "c")))
	}
}

// TestViews compares the functions of views with their readings.
func TestViews(t *testing.T) {
	m, seen := newMaker(1), map[api.Errno]int{}
	for range 6000 {
		v := m.views(m.IntN(30), 1+m.IntN(17))
		if oneIn(m, 20) {
			v = m.views(360+m.IntN(80), 16)
		}
		next := pick(m, 1, 2, 1000, 1<<40-400, 0, 1<<40-399)
		for range m.IntN(4) {
			m.spoil(&v)
		}
		want := errorOf(func() { validateRead(v) })
		if got := Validate(v); got != want {
			t.Fatalf("P14.1: Validate(%s) = %d, want %d", show(v), got, want)
		}
		seen[want]++
		var tree api.Tree
		want = errorOf(func() { tree = buildRead(v, next) })
		if got, e := Build(v, next); e != want || show(got) != show(tree) {
			t.Fatalf("P14.3: Build(%s, %d) = %s, %d, want %s, %d", show(v), next, show(got), e, show(tree), want)
		}
		if want == api.OK {
			testTree(t, tree)
		}
		w := m.views(0, 1)
		if oneIn(m, 2) {
			w, _ = Describe(tree)
			m.spoil(&w)
		}
		if Equal(v, w) != equalRead(v, w) || Equal(w, v) != equalRead(v, w) || Equal(w, w) != equalRead(w, w) {
			t.Fatalf("P14.3: Equal(%s, %s) = %t, %t, want %t", show(v), show(w), Equal(v, w), Equal(w, v), equalRead(v, w))
		}
	}
	for e := range api.ErrConflict {
		if slices.Contains([]api.Errno{api.OK, api.ErrTooLong, api.ErrSyntax, api.ErrName, api.ErrType, api.ErrRange, api.ErrDuplicate, api.ErrDepth, api.ErrKind, api.ErrOrder}, e) && seen[e] < 30 {
			t.Errorf("P14.1: the views have the error %d only %d times", e, seen[e])
		}
	}
}

// testTree compares the functions of trees with their readings.
func testTree(t *testing.T, tree api.Tree) api.Errno {
	t.Helper()
	var v api.View
	want := errorOf(func() { v = checkRead(tree) })
	if got := Check(tree); got != want {
		t.Fatalf("P14.2: Check(%s) = %d, want %d", show(tree), got, want)
	}
	if got, e := Describe(tree); e != want || show(got) != show(v) {
		t.Fatalf("P14.3: Describe(%s) = %s, %d, want %s, %d", show(tree), show(got), e, show(v), want)
	}
	if want != api.OK {
		testNoTree(t, tree)
		return want
	}
	paths, names := pathsRead(tree)
	step := 1 + len(paths)/10
	var order []int
	for i, path := range paths {
		id := path[len(path)-1]
		order = append(order, id)
		if i%step == 0 && (!slices.Equal(Path(tree, id), path) || PathName(tree, id) != names[i]) {
			t.Fatalf("P14.4, P14.5: the path of %d in %s is %v, %s, want %v, %s", id, show(tree), Path(tree, id), PathName(tree, id), path, names[i])
		}
		for j := i % 3; j < len(paths) && i%step == 0; j += 5 * step {
			other := paths[j][len(paths[j])-1]
			if got, want := Common(tree, id, other), commonRead(path, paths[j]); got != want {
				t.Fatalf("P14.4: Common of %d and %d in %s is %d, want %d", id, other, show(tree), got, want)
			}
		}
	}
	if got := Order(tree); !slices.Equal(got, order) {
		t.Fatalf("P14.4: Order(%s) = %v, want %v", show(tree), got, order)
	}
	slices.Sort(names)
	if len(slices.Compact(names)) != len(order) {
		t.Fatalf("P14.5: two nodes of %s have the same name", show(tree))
	}
	return api.OK
}

func testNoTree(t *testing.T, tree api.Tree) {
	t.Helper()
	for _, n := range tree.Nodes[:min(20, len(tree.Nodes))] {
		if len(Path(tree, n.ID)) > 0 || Common(tree, n.ID, n.ID) != 0 || PathName(tree, n.ID) != "" || len(Order(tree)) > 0 {
			t.Fatalf("P14.4, P14.5: %s is not valid but has paths", show(tree))
		}
	}
}

// renumber gives the nodes of a tree other IDs, in another order.
func (m maker) renumber(t *api.Tree) {
	ids := map[int]int{0: 0}
	order := m.Perm(len(t.Nodes))
	for i, n := range t.Nodes {
		ids[n.ID] = 1 + order[i]*pick(m, 3, 3, 1)
	}
	for i := range t.Nodes {
		n := &t.Nodes[i]
		n.ID, n.Parent = ids[n.ID], ids[n.Parent]
		for j, k := range n.Kids {
			n.Kids[j] = ids[k]
		}
	}
	slices.SortFunc(t.Nodes, func(a, b api.Node) int { return a.ID - b.ID })
	t.Root = ids[t.Root]
	t.Next = 1 + t.Nodes[len(t.Nodes)-1].ID + m.IntN(2)
}

// spoilTree changes a part of a tree.
func (m maker) spoilTree(t *api.Tree) {
	i := m.IntN(len(t.Nodes))
	n := &t.Nodes[i]
	id := pick(m, n.ID, t.Nodes[m.IntN(len(t.Nodes))].ID, t.Nodes[m.IntN(len(t.Nodes))].ID, m.IntN(t.Next+2)-1)
	switch k := m.IntN(13); {
	case k == 0:
		n.Parent = id
	case k == 1:
		n.ID = id
	case k == 2:
		n.Kids = append(slices.Clone(n.Kids), id)
	case k == 3 && len(n.Kids) > 0:
		n.Kids[m.IntN(len(n.Kids))] = id
	case k == 4 && len(n.Kids) > 0:
		n.Kids = slices.Delete(slices.Clone(n.Kids), 0, 1)
	case k == 5:
		t.Root = id
	case k == 6:
		t.Next = pick(m, id, id+1, 1<<40, 1<<40+1)
	case k == 7:
		slices.Reverse(n.Kids)
	case k == 8:
		// It and its descendants leave the tree, in a circle or without it.
		up := slices.IndexFunc(t.Nodes, func(x api.Node) bool { return x.ID == n.Parent })
		if up >= 0 {
			t.Nodes[up].Kids = slices.DeleteFunc(slices.Clone(t.Nodes[up].Kids), func(k int) bool { return k == n.ID })
			n.Parent = id
			at := slices.IndexFunc(t.Nodes, func(x api.Node) bool { return x.ID == id })
			if at >= 0 {
				t.Nodes[at].Kids = append(slices.Clone(t.Nodes[at].Kids), n.ID)
			}
		}
	case k <= 11:
		n.Key = pick(m, "a", "b", "a", "b", "#")
	default:
		n.Kind = m.IntN(15)
	}
}

// TestSpoiltTrees compares the functions of trees with their readings, for trees that are often not valid.
func TestSpoiltTrees(t *testing.T) {
	m, seen := newMaker(2), map[api.Errno]int{}
	for range 20000 {
		tree, e := Build(m.views(m.IntN(12), 1+m.IntN(9)), 1)
		if e != api.OK {
			t.Fatalf("P14.3: Build: %d", e)
		}
		if oneIn(m, 2) {
			m.renumber(&tree)
		}
		for range m.IntN(3) {
			m.spoilTree(&tree)
		}
		seen[testTree(t, tree)]++
	}
	for _, e := range []api.Errno{api.OK, api.ErrState, api.ErrKind, api.ErrName, api.ErrDuplicate} {
		if seen[e] < 100 {
			t.Errorf("P14.2: the trees have the error %d only %d times", e, seen[e])
		}
	}
}

// TestAttributesByChance compares the lookups of attributes with their readings.
func TestAttributesByChance(t *testing.T) {
	m := newMaker(3)
	for range 5000 {
		var l []api.Attr
		for range m.IntN(6) {
			l = append(l, attr(pick(m, "a", "b", "c"), pick(m, m.value(1), m.strange())))
		}
		other := m.IntN(100)
		want, found := api.Value{}, false
		for _, a := range slices.Backward(l) {
			if a.Name == "a" {
				want, found = a.Value, true
			}
		}
		wantText, wantNumber := "", other
		if found && want.Kind == api.ValueText {
			wantText = want.S
		}
		if found && want.Kind == api.ValueInt {
			wantNumber = want.N
		}
		got, ok := Attr(l, "a")
		if ok != found || show(got) != show(want) || ok && expr.Check(got) != expr.Check(want) {
			t.Fatalf("P14.4: Attr(%s) = %s, %t", show(l), show(got), ok)
		}
		if Text(l, "a") != wantText || Number(l, "a", other) != wantNumber || Flag(l, "a") != (fmt.Sprint(want.Kind, want.N) == "2 1") {
			t.Fatalf("P14.4: %s has the text %q, the number %d and the flag %t", show(l), Text(l, "a"), Number(l, "a", other), Flag(l, "a"))
		}
	}
}

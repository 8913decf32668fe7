package style

import (
	"math/rand/v2"
	"slices"
	"strconv"
	"strings"
	"testing"

	"widgetry/api"
	"widgetry/theme"
	"widgetry/view"
)

// maker makes trees, states, sheets and themes by chance, the same in each run.
type maker struct{ *rand.Rand }

func newMaker(seed uint64) maker { return maker{rand.New(rand.NewPCG(17, seed))} }

func pick[T any](m maker, l ...T) T { return l[m.IntN(len(l))] }

func oneIn(m maker, n int) bool { return m.IntN(n) == 0 }

func (m maker) class() string { return pick(m, "", "", "a", "b", "c-1") }

// attrs returns attributes of which those with a meaning for styles often have a value of another kind.
func (m maker) attrs() []api.Attr {
	var l []api.Attr
	if oneIn(m, 3) {
		l = append(l, api.Attr{Name: "checked", Value: pick(m, truth(1), truth(1), truth(0), num(1))})
	}
	if !oneIn(m, 3) {
		l = append(l, api.Attr{Name: "class", Value: pick(m, text("a"), text("b"), text("c-1"), text(""), text("no name"), truth(1))})
	}
	if oneIn(m, 3) {
		l = append(l, api.Attr{Name: "disabled", Value: pick(m, truth(1), truth(1), truth(0), text("x"))})
	}
	return l
}

// views returns a valid view with n views inside, nested up to that depth.
func (m maker) views(n, depth int) api.View {
	v := api.View{Kind: pick(m, 1, 1, 2, 3), Attrs: m.attrs()}
	for n > 0 && depth > 1 {
		inside := m.IntN(n)
		v.Kids = append(v.Kids, m.views(inside, depth-1))
		n -= inside + 1
	}
	return v
}

// tree returns a valid tree, whose nodes are often not numbered in preorder.
func (m maker) tree(t *testing.T, n, depth int) api.Tree {
	t.Helper()
	tree := built(t, m.views(n, depth), 1)
	if oneIn(m, 2) {
		return tree
	}
	ids := map[int]int{}
	for i, n := range m.Perm(len(tree.Nodes)) {
		ids[tree.Nodes[i].ID] = 2*n + 1 + m.IntN(2)
	}
	renumber(&tree, ids)
	tree.Next += m.IntN(3)
	return tree
}

// states returns states of some nodes, and of some that do not exist, in any order; some have several.
func (m maker) states(n int) []api.NodeStates {
	var l []api.NodeStates
	for range m.IntN(n + 2) {
		l = append(l, api.NodeStates{ID: m.IntN(2*n + 2), States: pick(m, 0, m.IntN(32), 31, 1<<m.IntN(5))})
	}
	return l
}

func (m maker) theme() api.Theme {
	var th api.Theme
	value := func() int { return pick(m, -1, 0, 1, 2, 3, 5, 12, 1000, 1001, 1<<20, 1<<20+1, 0xFFFFFF) }
	for i := range m.IntN(5) {
		th.Tokens = append(th.Tokens, api.Token{Name: "t" + strconv.Itoa(i), Light: value(), Dark: value(), HighLight: value(), HighDark: value()})
	}
	return th
}

func (m maker) mode() api.Mode {
	return api.Mode{Dark: oneIn(m, 2), High: oneIn(m, 2), Scale: pick(m, 50, 75, 100, 101, 150, 400)}
}

func (m maker) between(least, most int) int { return least + m.IntN(most-least+1) }

// decl returns a valid declaration of a rule for nodes with the states.
func (m maker) decl(states int) api.Decl {
	// A few properties are declared often, so that rules contradict each other.
	d := api.Decl{Prop: pick(m, api.PropColor, api.PropFontSize, api.PropGap, api.PropGrow, m.IntN(22)), Source: pick(m, 0, 0, 0, 1, 1, 2, 3)}
	for states&7 != 0 && (d.Prop == api.PropDisplay || d.Prop == api.PropVisibility) {
		d.Prop = m.IntN(22)
	}
	x := rows()[d.Prop]
	switch d.Source {
	case api.DeclLiteral:
		d.N = pick(m, x.least, x.most, x.initial, m.between(x.least, x.most), m.between(x.least, x.most), min(x.most, m.between(x.least, 30)))
	case api.DeclToken:
		d.Token = "t" + strconv.Itoa(m.IntN(5))
	}
	return d
}

func (m maker) rule(most int) api.Rule {
	r := api.Rule{Kind: pick(m, 0, 0, 1, 2, 3), Class: pick(m, "", m.class()), States: pick(m, 0, 0, 0, 0, 0, 1<<m.IntN(5), 1<<m.IntN(5), m.IntN(32)), UnderKind: pick(m, 0, 0, 0, 0, 1, 2), UnderClass: pick(m, "", "", m.class())}
	for range m.IntN(most + 1) {
		r.Decls = append(r.Decls, m.decl(r.States))
	}
	return r
}

func (m maker) sheet(rules, most int) api.Sheet {
	var s api.Sheet
	for range m.IntN(rules + 1) {
		s.Rules = append(s.Rules, m.rule(most))
	}
	return s
}

// spoil changes a part of a sheet, which often becomes invalid.
func (m maker) spoil(s *api.Sheet) {
	if len(s.Rules) == 0 {
		s.Rules = slices.Repeat([]api.Rule{{}}, pick(m, 1, 100, 101))
	}
	r := &s.Rules[m.IntN(len(s.Rules))]
	name := pick(m, "", "a", "1", ".", strings.Repeat("n", 24), strings.Repeat("n", 25))
	switch k := m.IntN(9); {
	case k == 0:
		r.Kind = pick(m, -1, 13, 14)
	case k == 1:
		r.UnderKind = pick(m, -1, 13, 14)
	case k == 2:
		r.Class = name
	case k == 3:
		r.UnderClass = name
	case k == 4:
		r.States = pick(m, -1, 1, 2, 4, 8, 16, 31, 32)
	case k == 5:
		r.Decls = append(r.Decls, slices.Repeat([]api.Decl{{Prop: pick(m, 0, 22)}}, pick(m, 1, 50, 51))...)
	default:
		if len(r.Decls) == 0 {
			r.Decls = []api.Decl{m.decl(0)}
		}
		d := &r.Decls[m.IntN(len(r.Decls))]
		switch m.IntN(4) {
		case 0:
			d.Prop = pick(m, -1, 5, 21, 22)
		case 1:
			d.Source = pick(m, -1, 0, 1, 2, 3, 4)
		case 2:
			d.N = pick(m, -2, -1, 0, 1, 5, 1000, 1001, 1<<20, 1<<20+1, 1<<24)
		case 3:
			d.Token = name
		}
	}
}

// TestValidateByChance compares Validate with its reading.
func TestValidateByChance(t *testing.T) {
	m, seen := newMaker(1), map[api.Errno]int{}
	for range 20000 {
		s := m.sheet(4, 4)
		for range m.IntN(4) {
			m.spoil(&s)
		}
		want := errorOf(func() { validateRead(s) })
		if got := Validate(s); got != want {
			t.Fatalf("P17.2: Validate of %s = %d, want %d", show(s), got, want)
		}
		seen[want]++
	}
	for _, e := range []api.Errno{api.OK, api.ErrTooLong, api.ErrKind, api.ErrName, api.ErrRange, api.ErrConflict} {
		if seen[e] < 100 {
			t.Errorf("P17.2: Validate had the result %d only %d times", e, seen[e])
		}
	}
}

// TestMatchesByChance compares Matches and FromAttrs with their readings.
func TestMatchesByChance(t *testing.T) {
	m, seen := newMaker(2), map[bool]int{}
	for range 600 {
		tree := m.tree(t, m.IntN(14), 1+m.IntN(6))
		if oneIn(m, 20) {
			tree.Root = m.IntN(4)
		}
		if got, want := FromAttrs(tree), fromAttrsRead(tree); !slices.Equal(got, want) {
			t.Fatalf("P17.6: FromAttrs of %s = %v, want %v", show(tree), got, want)
		}
		st := m.states(len(tree.Nodes))
		for range 6 {
			r := m.rule(0)
			for id := range tree.Next + 1 {
				want := matchesRead(r, tree, st, id)
				if got := Matches(r, tree, st, id); got != want {
					t.Fatalf("P17.3: Matches of %s, %s, %v and %d = %t", show(r), show(tree), st, id, got)
				}
				seen[want]++
			}
		}
	}
	if seen[true] < 2000 || seen[false] < 2000 {
		t.Errorf("P17.3: Matches was true and false so many times: %v", seen)
	}
}

// TestCascadeByChance compares Cascade with its reading.
func TestCascadeByChance(t *testing.T) {
	m, seen, differing := newMaker(3), map[api.Errno]int{}, 0
	for range 1200 {
		s, th, mode, tree := m.sheet(16, 6), m.theme(), m.mode(), m.tree(t, m.IntN(18), 2+m.IntN(5))
		if oneIn(m, 12) {
			m.spoil(&s)
		}
		if oneIn(m, 30) {
			th.Tokens = append(th.Tokens, pick(m, api.Token{}, api.Token{Name: "t0"}, api.Token{Name: "z", Dark: -2}))
		}
		if oneIn(m, 30) {
			mode.Scale = pick(m, -100, 0, 49, 401)
		}
		if oneIn(m, 30) {
			tree.Root = 0
		}
		st := m.states(len(tree.Nodes))
		before := show(s) + show(th) + show(tree) + show(st)
		var want []api.Styled
		e := errorOf(func() { want = cascadeRead(s, th, mode, tree, st) })
		for range 2 {
			if got, f := Cascade(s, th, mode, tree, st); f != e || !slices.Equal(got, want) {
				t.Fatalf("P17.4: Cascade of %s, %s, %v, %s, %v = %v, %d, want %v, %d", show(s), show(th), mode, show(tree), st, got, f, want, e)
			}
		}
		if show(s)+show(th)+show(tree)+show(st) != before {
			t.Fatal("R2: Cascade has changed an argument")
		}
		seen[e]++
		styles := map[api.Style]bool{}
		for _, x := range want {
			styles[x.Style] = true
		}
		if len(styles) > 2 {
			differing++
		}
	}
	if seen[api.OK] < 800 || seen[api.ErrState] < 5 || seen[api.ErrRange] < 10 || differing < 300 {
		t.Errorf("P17.4: Cascade had these results: %v; many different styles %d times", seen, differing)
	}
}

// change changes a part of a view, which stays valid.
func (m maker) change(v *api.View) {
	x := v
	for len(x.Kids) > 0 && !oneIn(m, 4) {
		x = &x.Kids[m.IntN(len(x.Kids))]
	}
	switch m.IntN(5) {
	case 0:
		x.Attrs = m.attrs()
	case 1:
		x.Kind = pick(m, 1, 2, 3)
	case 2:
		x.Kids = slices.Insert(x.Kids, m.IntN(len(x.Kids)+1), m.views(m.IntN(3), 2))
	case 3:
		if len(x.Kids) > 0 {
			i := m.IntN(len(x.Kids))
			x.Kids = slices.Delete(x.Kids, i, i+1)
		}
	default:
		x.Key = pick(m, "", "k"+strconv.Itoa(m.IntN(1000)))
	}
}

// TestRestyleByChance compares Restyle with its reading, and with Cascade.
func TestRestyleByChance(t *testing.T) {
	m, seen, counts := newMaker(4), map[api.Errno]int{}, map[int]int{}
	for range 800 {
		s, th, mode, old := m.sheet(12, 6), m.theme(), m.mode(), m.tree(t, m.IntN(14), 1+m.IntN(6))
		v, e := view.Describe(old)
		if e != api.OK {
			t.Fatalf("P14.3: Describe: %d", e)
		}
		for range m.IntN(3) {
			m.change(&v)
		}
		tree := m.renumbered(t, v, old)
		st := m.states(len(tree.Nodes))
		oldStates := st
		if oneIn(m, 2) {
			oldStates = m.states(len(old.Nodes))
		}
		oldStyles, e := Cascade(s, th, mode, old, oldStates)
		if e != api.OK {
			t.Fatalf("P17.4: Cascade: %d", e)
		}
		m.disturb(&mode, &old, &tree, &oldStyles)
		before := show(s) + show(old) + show(oldStates) + show(oldStyles) + show(tree) + show(st)
		var want []api.Styled
		var count int
		e = errorOf(func() { want, count = restyleRead(s, th, mode, old, oldStates, oldStyles, tree, st) })
		got, n, f := Restyle(s, th, mode, old, oldStates, oldStyles, tree, st)
		if f != e || n != count || !slices.Equal(got, want) {
			t.Fatalf("P17.5: Restyle of %s from %s, %v to %s, %v = %v, %d, %d, want %v, %d, %d", show(s), show(old), oldStates, show(tree), st, got, n, f, want, count, e)
		}
		if show(s)+show(old)+show(oldStates)+show(oldStyles)+show(tree)+show(st) != before {
			t.Fatal("R2: Restyle has changed an argument")
		}
		seen[e]++
		if e == api.OK {
			counts[min(n, len(tree.Nodes)-n)]++
		}
	}
	if seen[api.OK] < 600 || seen[api.ErrState] < 20 || seen[api.ErrRange] < 5 || counts[0] < 50 || counts[1] < 50 || counts[2] < 30 {
		t.Errorf("P17.5: Restyle had these results: %v; so many nodes were reused or not: %v", seen, counts)
	}
}

// renumbered returns the tree of v, where the nodes have IDs of old at the same places in preorder, as far as there are as many.
func (m maker) renumbered(t *testing.T, v api.View, old api.Tree) api.Tree {
	t.Helper()
	tree := built(t, v, 1)
	order, next := view.Order(old), old.Next
	ids := map[int]int{}
	for i, id := range view.Order(tree) {
		if i < len(order) {
			ids[id] = order[i]
			continue
		}
		ids[id] = next
		next++
	}
	renumber(&tree, ids)
	return tree
}

// disturb makes an argument of Restyle wrong now and then.
func (m maker) disturb(mode *api.Mode, old, tree *api.Tree, oldStyles *[]api.Styled) {
	switch m.IntN(60) {
	case 0:
		mode.Scale = 401
	case 1:
		tree.Root = -1
	case 2:
		old.Next = 1
	case 3:
		*oldStyles = (*oldStyles)[1:]
	case 4:
		*oldStyles = append(*oldStyles, api.Styled{ID: old.Next})
	case 5:
		(*oldStyles)[0].ID = -1
	}
}

// TestLimits computes the styles of the largest tree with the largest sheet and theme.
func TestLimits(t *testing.T) {
	m := newMaker(5)
	var th api.Theme
	for i := range 100 {
		th.Tokens = append(th.Tokens, api.Token{Name: "t" + strconv.Itoa(i), Light: i})
	}
	rules := make([]api.Rule, 100)
	for i := range rules {
		rules[i] = api.Rule{Kind: i % 2, Decls: slices.Repeat([]api.Decl{token(api.PropGap, "t"+strconv.Itoa(i))}, 50)}
	}
	kids := slices.Repeat([]api.View{{Kind: 1, Kids: slices.Repeat([]api.View{{Kind: 2}}, 56)}}, 7)
	tree := built(t, api.View{Kind: 1, Kids: kids}, 1)
	if theme.Validate(th) != api.OK || Validate(sheetOf(rules...)) != api.OK || len(tree.Nodes) != 400 {
		t.Fatalf("P17.2: the largest sheet is not valid; the tree has %d nodes", len(tree.Nodes))
	}
	l, e := Cascade(sheetOf(rules...), th, plain(), tree, m.states(400))
	if e != api.OK || len(l) != 400 || l[0].Style[api.PropGap] != 99 || l[399].Style[api.PropGap] != 98 {
		t.Fatalf("P17.4: Cascade of a large tree: %d styles, %d", len(l), e)
	}
	again, n, e := Restyle(sheetOf(rules...), th, plain(), tree, nil, l, tree, nil)
	if e != api.OK || n != 0 || !slices.Equal(again, l) {
		t.Errorf("P17.5: Restyle of a large tree: %d styles, %d, %d", len(again), n, e)
	}
}

package style

import (
	"math"
	"testing"

	"widgetry/api"
)

func plain() api.Mode { return api.Mode{Scale: 100} }

// paper is a theme with values that suit different properties.
func paper() api.Theme {
	return api.Theme{Tokens: []api.Token{
		{Name: "ink", Light: 0x111111, Dark: 0x222222, HighLight: 0x333333, HighDark: 0x444444},
		{Name: "clear", Light: -1, Dark: 0, HighLight: 1, HighDark: 2},
		{Name: "size", Light: 1000, Dark: 1001, HighLight: 20, HighDark: 0},
	}}
}

// styled returns the styles of a family in a mode.
func styled(t *testing.T, s api.Sheet, m api.Mode, st []api.NodeStates) []api.Styled {
	t.Helper()
	l, e := Cascade(s, paper(), m, family(t), st)
	if e != api.OK || len(l) != 7 {
		t.Fatalf("P17.4: Cascade of %s: %d styles, %d", show(s), len(l), e)
	}
	return l
}

// expectValues checks the values of a property for the nodes 1 to 7 of the family.
func expectValues(t *testing.T, l []api.Styled, prop int, want ...int) {
	t.Helper()
	for i, x := range l {
		if x.ID != i+1 || x.Style[prop] != want[i] {
			t.Errorf("P17.4: the property %d of the node %d is %d, want %d", prop, x.ID, x.Style[prop], want[i])
		}
	}
}

func TestNoRules(t *testing.T) {
	l := styled(t, api.Sheet{}, plain(), nil)
	for i, x := range l {
		if x.ID != i+1 || x.Style != Initial() {
			t.Errorf("P17.4: without rules the style of %d is %v", x.ID, x.Style)
		}
	}
	// Without rules all of them have the scaled initial size.
	for scale, want := range map[int]int{50: 8, 99: 16, 150: 24, 400: 64} {
		l := styled(t, api.Sheet{}, api.Mode{Scale: scale}, nil)
		initial := Initial()
		initial[api.PropFontSize] = want
		for _, x := range l {
			if x.Style != initial {
				t.Errorf("P17.4: at the scale %d the style of %d is %v", scale, x.ID, x.Style)
			}
		}
	}
}

// TestInheritance sets each property on the list (4), whose descendants are 5 to 7.
func TestInheritance(t *testing.T) {
	for _, x := range rows() {
		i, v := x.initial, x.most
		if v == i {
			v = x.least
		}
		expectValues(t, styled(t, sheetOf(api.Rule{Kind: api.KindGroup, Decls: []api.Decl{literal(x.prop, v)}}), plain(), nil), x.prop, inheritedRow(x.inherited, v, i, 1, 2, 3, 4, 5, 6, 7)...)
		expectValues(t, styled(t, sheetOf(api.Rule{Kind: api.KindList, Decls: []api.Decl{literal(x.prop, v)}}), plain(), nil), x.prop, inheritedRow(x.inherited, v, i, 4, 5, 6, 7)...)
		expectValues(t, styled(t, sheetOf(api.Rule{Class: "odd", Decls: []api.Decl{literal(x.prop, v)}}), plain(), nil), x.prop, inheritedRow(x.inherited, v, i, 5, 6)...)
		expectValues(t, styled(t, sheetOf(api.Rule{Class: "even", Decls: []api.Decl{literal(x.prop, v)}}), plain(), nil), x.prop, inheritedRow(x.inherited, v, i, 7)...)
		// What is declared to be inherited is inherited also if the property is not.
		s := sheetOf(decls(inherit(x.prop)), api.Rule{Kind: api.KindList, Decls: []api.Decl{literal(x.prop, v)}})
		expectValues(t, styled(t, s, plain(), nil), x.prop, i, i, i, v, v, v, v)
		// What is declared to be initial is initial also if the property is inherited.
		s = sheetOf(decls(initially(x.prop)), api.Rule{Kind: api.KindList, Decls: []api.Decl{literal(x.prop, v)}})
		expectValues(t, styled(t, s, plain(), nil), x.prop, i, i, i, v, i, i, i)
		s = sheetOf(api.Rule{Kind: api.KindGroup, Decls: []api.Decl{literal(x.prop, v)}}, api.Rule{Kind: api.KindItem, Decls: []api.Decl{initially(x.prop)}})
		if x.inherited {
			expectValues(t, styled(t, s, plain(), nil), x.prop, v, v, v, v, i, i, i)
		}
	}
}

// inheritedRow returns the values of the nodes 1 to 7 if v is set on the first one of some, of which the others are the descendants.
func inheritedRow(inherited bool, v, initial int, some ...int) []int {
	l := []int{initial, initial, initial, initial, initial, initial, initial}
	for i, id := range some {
		if i == 0 || inherited {
			l[id-1] = v
		}
	}
	return l
}

// TestFontSizes: a size is scaled once where it is set, and taken from the parent as it is.
func TestFontSizes(t *testing.T) {
	size := func(d api.Decl) api.Sheet { return sheetOf(api.Rule{Kind: api.KindList, Decls: []api.Decl{d}}) }
	for _, x := range []struct {
		s     api.Sheet
		scale int
		want  []int
	}{
		{size(literal(api.PropFontSize, 20)), 100, []int{16, 16, 16, 20, 20, 20, 20}},
		{size(literal(api.PropFontSize, 20)), 150, []int{24, 24, 24, 30, 30, 30, 30}},
		{size(literal(api.PropFontSize, 20)), 50, []int{8, 8, 8, 10, 10, 10, 10}},
		{size(literal(api.PropFontSize, 1)), 50, []int{8, 8, 8, 1, 1, 1, 1}},
		{size(literal(api.PropFontSize, 251)), 400, []int{64, 64, 64, 1000, 1000, 1000, 1000}},
		{size(inherit(api.PropFontSize)), 150, []int{24, 24, 24, 24, 24, 24, 24}},
		{size(initially(api.PropFontSize)), 150, []int{24, 24, 24, 24, 24, 24, 24}},
		{size(token(api.PropFontSize, "size")), 50, []int{8, 8, 8, 500, 500, 500, 500}},
		{size(token(api.PropFontSize, "ink")), 150, []int{24, 24, 24, 24, 24, 24, 24}},
		{sheetOf(decls(inherit(api.PropFontSize))), 200, []int{32, 32, 32, 32, 32, 32, 32}},
		{sheetOf(decls(initially(api.PropFontSize))), 200, []int{32, 32, 32, 32, 32, 32, 32}},
		{sheetOf(decls(literal(api.PropFontSize, 10))), 200, []int{20, 20, 20, 20, 20, 20, 20}},
		{sheetOf(api.Rule{Kind: api.KindGroup, Decls: []api.Decl{inherit(api.PropFontSize)}}), 200, []int{32, 32, 32, 32, 32, 32, 32}},
		{sheetOf(api.Rule{Kind: api.KindGroup, Decls: []api.Decl{literal(api.PropFontSize, 30)}}, api.Rule{Kind: api.KindItem, Decls: []api.Decl{initially(api.PropFontSize)}}), 200, []int{60, 60, 60, 60, 32, 32, 32}},
		{sheetOf(api.Rule{Kind: api.KindGroup, Decls: []api.Decl{literal(api.PropFontSize, 30)}}, api.Rule{Kind: api.KindItem, Decls: []api.Decl{inherit(api.PropFontSize)}}), 200, []int{60, 60, 60, 60, 60, 60, 60}},
	} {
		expectValues(t, styled(t, x.s, api.Mode{Scale: x.scale}, nil), api.PropFontSize, x.want...)
	}
}

// TestScaledOnce: no other property has anything to do with the text scale.
func TestScaledOnce(t *testing.T) {
	for _, x := range rows() {
		if x.prop == api.PropFontSize {
			continue
		}
		for _, v := range []int{x.least, x.most} {
			l := styled(t, sheetOf(decls(literal(x.prop, v))), api.Mode{Scale: 300}, nil)
			expectValues(t, l, x.prop, v, v, v, v, v, v, v)
		}
	}
}

// TestRank lets two rules of different rank declare the gap of the label go (6); the greater one sets 2.
func TestRank(t *testing.T) {
	const button, list, item, label, app = api.KindButton, api.KindList, api.KindItem, api.KindLabel, api.KindGroup
	st := []api.NodeStates{{ID: 6, States: 31}}
	for _, x := range []struct {
		name          string
		less, greater api.Rule
	}{
		{"a class", api.Rule{}, api.Rule{Class: "go"}},
		{"a state", api.Rule{}, api.Rule{States: 1}},
		{"a class around", api.Rule{}, api.Rule{UnderClass: "app"}},
		{"a kind", api.Rule{}, api.Rule{Kind: label}},
		{"a kind around", api.Rule{}, api.Rule{UnderKind: list}},
		{"a class before a kind", api.Rule{Kind: label}, api.Rule{Class: "go"}},
		{"a class before two kinds", api.Rule{Kind: label, UnderKind: item}, api.Rule{Class: "go"}},
		{"a state before two kinds", api.Rule{Kind: label, UnderKind: item}, api.Rule{States: 16}},
		{"a class around before two kinds", api.Rule{Kind: label, UnderKind: item}, api.Rule{UnderClass: "odd"}},
		{"two kinds before one", api.Rule{Kind: label}, api.Rule{Kind: label, UnderKind: app}},
		{"two kinds before one around", api.Rule{UnderKind: item}, api.Rule{Kind: label, UnderKind: app}},
		{"two classes before one", api.Rule{Class: "go"}, api.Rule{Class: "go", UnderClass: "odd"}},
		{"two states before a class", api.Rule{Class: "go"}, api.Rule{States: 3}},
		{"two states before a class and two kinds", api.Rule{Kind: label, Class: "go", UnderKind: app}, api.Rule{States: 12}},
		{"three states before two classes", api.Rule{Class: "go", UnderClass: "app"}, api.Rule{States: 7}},
		{"five states before two states and two classes", api.Rule{Class: "go", UnderClass: "app", States: 24, Kind: label, UnderKind: list}, api.Rule{States: 31}},
		{"a state of a small number before none", api.Rule{Kind: label}, api.Rule{States: 1, Kind: label}},
		{"two low states before one high state", api.Rule{States: 16}, api.Rule{States: 3}},
		{"equal numbers of conditions, and a kind", api.Rule{States: 1}, api.Rule{Class: "go", Kind: label}},
		{"equal numbers of conditions, and a kind around", api.Rule{Class: "go"}, api.Rule{States: 2, UnderKind: list}},
	} {
		for _, rules := range [][]api.Rule{{x.less, x.greater}, {x.greater, x.less}, {{Kind: button}, x.greater, {}, x.less}} {
			for i := range rules {
				gap := 1
				if same(rules[i], x.greater) {
					gap = 2
				}
				rules[i].Decls = []api.Decl{literal(api.PropGap, gap)}
			}
			if got := styled(t, sheetOf(rules...), plain(), st)[5].Style[api.PropGap]; got != 2 {
				t.Errorf("P17.4: %s: the gap is %d", x.name, got)
			}
		}
	}
}

// same compares rules without their declarations.
func same(a, b api.Rule) bool {
	a.Decls, b.Decls = nil, nil
	return show(a) == show(b)
}

// TestPosition: of rules with the same rank the later one counts, and of its declarations the last one.
func TestPosition(t *testing.T) {
	gap := func(r api.Rule, l ...int) api.Rule {
		for _, n := range l {
			r.Decls = append(r.Decls, literal(api.PropGap, n))
		}
		return r
	}
	st := []api.NodeStates{{ID: 6, States: 31}}
	for _, x := range []struct {
		rules []api.Rule
		want  int
	}{
		{[]api.Rule{gap(api.Rule{}, 1), gap(api.Rule{}, 2)}, 2},
		{[]api.Rule{gap(api.Rule{}, 2, 1, 3)}, 3},
		{[]api.Rule{gap(api.Rule{}, 1, 9), gap(api.Rule{}, 5, 2)}, 2},
		{[]api.Rule{gap(api.Rule{Class: "go"}, 1), gap(api.Rule{UnderClass: "odd"}, 2)}, 2},
		{[]api.Rule{gap(api.Rule{UnderClass: "odd"}, 1), gap(api.Rule{Class: "go"}, 2)}, 2},
		{[]api.Rule{gap(api.Rule{Class: "go"}, 1), gap(api.Rule{States: 1}, 2)}, 2},
		{[]api.Rule{gap(api.Rule{States: 16}, 1), gap(api.Rule{States: 1}, 2)}, 2},
		{[]api.Rule{gap(api.Rule{Kind: api.KindLabel}, 1), gap(api.Rule{UnderKind: api.KindGroup}, 2)}, 2},
		{[]api.Rule{gap(api.Rule{UnderKind: api.KindGroup}, 1), gap(api.Rule{Kind: api.KindLabel}, 2)}, 2},
		{[]api.Rule{gap(api.Rule{Kind: api.KindLabel}, 1), gap(api.Rule{Kind: api.KindLabel})}, 1},
		{[]api.Rule{gap(api.Rule{Class: "go"}, 4, 1), gap(api.Rule{Class: "go"}, 3), gap(api.Rule{Kind: api.KindLabel}, 9), gap(api.Rule{Kind: api.KindButton, Class: "go"}, 8)}, 3},
	} {
		if got := styled(t, sheetOf(x.rules...), plain(), st)[5].Style[api.PropGap]; got != x.want {
			t.Errorf("P17.4: the gap with %s is %d, want %d", show(x.rules), got, x.want)
		}
	}
}

// TestManyRules has so many equal rules that a sort that does not keep their order changes it.
func TestManyRules(t *testing.T) {
	var rules []api.Rule
	for i := range 100 {
		r := api.Rule{Decls: []api.Decl{literal(api.PropGap, i)}}
		switch i % 3 {
		case 0:
			r.Class = "go"
		case 1:
			r.States = 2
		}
		rules = append(rules, r)
	}
	l := styled(t, sheetOf(rules...), plain(), []api.NodeStates{{ID: 2, States: 2}, {ID: 4, States: 6}})
	expectValues(t, l, api.PropGap, 98, 99, 98, 97, 98, 99, 98)
}

// TestSources: the declaration that counts is one of several sources.
func TestCountingSources(t *testing.T) {
	color := func(l ...api.Decl) []int {
		s := sheetOf(decls(literal(api.PropColor, 5)), api.Rule{Kind: api.KindList, Decls: l})
		var values []int
		for _, x := range styled(t, s, plain(), nil) {
			values = append(values, x.Style[api.PropColor])
		}
		return values[2:5]
	}
	const prop = api.PropColor
	for _, x := range []struct {
		l    []api.Decl
		want int
	}{
		{[]api.Decl{literal(prop, 7)}, 7},
		{[]api.Decl{literal(prop, 0)}, 0},
		{[]api.Decl{token(prop, "ink")}, 0x111111},
		{[]api.Decl{inherit(prop)}, 5},
		{[]api.Decl{initially(prop)}, 0},
		{[]api.Decl{literal(prop, 7), initially(prop)}, 0},
		{[]api.Decl{initially(prop), literal(prop, 7)}, 7},
		{[]api.Decl{literal(prop, 7), token(prop, "ink")}, 0x111111},
		{[]api.Decl{token(prop, "ink"), inherit(prop)}, 5},
		// Declarations that are not effective do not count.
		{[]api.Decl{token(prop, "none")}, 5},
		{[]api.Decl{token(prop, "clear")}, 5},
		{[]api.Decl{literal(prop, 7), token(prop, "none")}, 7},
		{[]api.Decl{literal(prop, 7), token(prop, "clear")}, 7},
		{[]api.Decl{initially(prop), token(prop, "clear"), token(prop, "Ink")}, 0},
		{[]api.Decl{token(prop, "ink"), token(prop, "clear")}, 0x111111},
	} {
		if got := color(x.l...); got[0] != 5 || got[1] != x.want || got[2] != 5 {
			t.Errorf("P17.4: the colors with %s = %v, want 5, %d, 5", show(x.l), got, x.want)
		}
	}
}

// TestIneffective: a greater rule whose declaration is not effective leaves the property to a lesser one.
func TestIneffective(t *testing.T) {
	s := sheetOf(
		api.Rule{Kind: api.KindItem, Decls: []api.Decl{token(api.PropColor, "clear"), token(api.PropBackground, "clear"), token(api.PropFontSize, "size"), token(api.PropGap, "ink"), token(api.PropGrow, "ink")}},
		decls(literal(api.PropColor, 1), literal(api.PropBackground, 1), literal(api.PropFontSize, 10), literal(api.PropGap, 10), literal(api.PropGrow, 3)),
	)
	for _, x := range []struct {
		m                                  api.Mode
		color, background, size, gap, grow int
	}{
		{api.Mode{Scale: 100}, 1, -1, 1000, 10, 3},
		{api.Mode{Dark: true, Scale: 100}, 0, 0, 10, 10, 3},
		{api.Mode{High: true, Scale: 200}, 1, 1, 40, 10, 3},
		{api.Mode{Dark: true, High: true, Scale: 200}, 2, 2, 20, 10, 3},
	} {
		got := styled(t, s, x.m, nil)[4].Style
		if got[api.PropColor] != x.color || got[api.PropBackground] != x.background || got[api.PropFontSize] != x.size || got[api.PropGrow] != x.grow {
			t.Errorf("P17.4: the style in the mode %v is %v", x.m, got)
		}
		// In each mode ink is greater than the greatest gap.
		if got[api.PropGap] != x.gap {
			t.Errorf("P17.4: the gap in the mode %v is %d", x.m, got[api.PropGap])
		}
	}
}

// TestTokenSize: the value of a token is compared with the range before it is scaled.
func TestTokenSize(t *testing.T) {
	for _, x := range []struct{ n, scale, want int }{
		{0, 100, 12}, {-1, 400, 12}, {1, 50, 1}, {1000, 400, 1000}, {1001, 50, 12}, {0xFFFFFF, 50, 12}, {300, 400, 1000}, {25, 50, 13},
	} {
		th := api.Theme{Tokens: []api.Token{{Name: "n", Light: x.n}}}
		s := sheetOf(decls(literal(api.PropFontSize, 12), token(api.PropFontSize, "n")))
		l, e := Cascade(s, th, api.Mode{Scale: x.scale}, built(t, element(api.KindGroup, ""), 1), nil)
		want := x.want
		if want == 12 {
			want = 12 * x.scale / 100
		}
		if e != api.OK || len(l) != 1 || l[0].Style[api.PropFontSize] != want {
			t.Errorf("P17.4: a size of a token %d at the scale %d: %v, %d, want %d", x.n, x.scale, l, e, want)
		}
	}
}

// TestUpside: parents have greater IDs than their children; the styles are still in ascending order.
func TestUpside(t *testing.T) {
	s := sheetOf(decls(inherit(api.PropGap)), api.Rule{Kind: api.KindList, Decls: []api.Decl{literal(api.PropGap, 4), literal(api.PropColor, 9)}}, api.Rule{Kind: api.KindItem, States: 1, Decls: []api.Decl{literal(api.PropColor, 8)}})
	l, e := Cascade(s, paper(), plain(), upside(t), []api.NodeStates{{ID: 30, States: 3}, {ID: 30}, {ID: 10}, {ID: 10, States: 1}, {ID: 5, States: 1}})
	want := []struct{ id, gap, color int }{{10, 4, 9}, {20, 4, 8}, {30, 4, 8}, {40, 4, 9}, {50, 0, 0}, {60, 0, 0}, {70, 0, 0}}
	if e != api.OK || len(l) != len(want) {
		t.Fatalf("P17.4: Cascade: %v, %d", l, e)
	}
	for i, x := range want {
		if l[i].ID != x.id || l[i].Style[api.PropGap] != x.gap || l[i].Style[api.PropColor] != x.color {
			t.Errorf("P17.4: the style of %d is %v, want %v", l[i].ID, l[i].Style, x)
		}
	}
}

// TestStatesOfRules: a state changes the style of one node and what its descendants inherit.
func TestStatesOfRules(t *testing.T) {
	s := sheetOf(api.Rule{States: api.StateHovered, Decls: []api.Decl{literal(api.PropColor, 1)}}, api.Rule{States: api.StateDisabled, Decls: []api.Decl{literal(api.PropVisibility, 1), literal(api.PropDisplay, api.DisplayNone)}})
	l := styled(t, s, plain(), []api.NodeStates{{ID: 4, States: 1}, {ID: 2, States: 8}, {ID: 4, States: 8}, {ID: 2}})
	expectValues(t, l, api.PropColor, 0, 0, 0, 1, 1, 1, 1)
	expectValues(t, l, api.PropVisibility, 0, 1, 1, 0, 0, 0, 0)
	expectValues(t, l, api.PropDisplay, 1, 0, 1, 1, 1, 1, 1)
}

// TestCascadeErrors makes arguments wrong from the last one to the first one.
func TestCascadeErrors(t *testing.T) {
	s, th, m, tree := sheetOf(decls(literal(api.PropGap, 1))), paper(), plain(), family(t)
	expectError := func(want api.Errno) {
		t.Helper()
		l, e := Cascade(s, th, m, tree, nil)
		if e != want || want != api.OK && len(l) > 0 {
			t.Errorf("P17.4: Cascade: %v, %d, want %d", l, e, want)
		}
		l, n, e := Restyle(s, th, m, tree, nil, l, tree, nil)
		if e != want || want != api.OK && len(l) > 0 || n != 0 {
			t.Errorf("P17.5: Restyle: %v, %d, %d, want %d", l, n, e, want)
		}
	}
	expectError(api.OK)
	tree.Nodes[6].Key = "."
	expectError(api.ErrName)
	tree.Root = 2
	expectError(api.ErrState)
	for _, scale := range []int{math.MinInt, -100, 0, 49, 401, math.MaxInt} {
		m.Scale = scale
		expectError(api.ErrRange)
	}
	th.Tokens[1].Name = "ink"
	expectError(api.ErrDuplicate)
	th.Tokens = make([]api.Token, 101)
	expectError(api.ErrTooLong)
	s.Rules[0].Kind = -1
	expectError(api.ErrKind)
	s.Rules = make([]api.Rule, 101)
	expectError(api.ErrTooLong)
	th = paper()
	expectError(api.ErrTooLong)
}

func TestScales(t *testing.T) {
	tree := built(t, element(api.KindGroup, ""), 1)
	for scale := 45; scale <= 405; scale++ {
		l, e := Cascade(api.Sheet{}, api.Theme{}, api.Mode{Scale: scale}, tree, nil)
		if scale < 50 || scale > 400 {
			if e != api.ErrRange || len(l) > 0 {
				t.Errorf("P17.4: the scale %d: %v, %d", scale, l, e)
			}
		} else if e != api.OK || len(l) != 1 || l[0].Style[api.PropFontSize] != (16*scale+50)/100 {
			t.Errorf("P17.4: the scale %d: %v, %d", scale, l, e)
		}
	}
}

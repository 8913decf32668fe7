package style

import (
	"math"
	"slices"
	"strings"
	"testing"

	"widgetry/api"
)

func literal(prop, n int) api.Decl { return api.Decl{Prop: prop, Source: api.DeclLiteral, N: n} }

func token(prop int, name string) api.Decl {
	return api.Decl{Prop: prop, Source: api.DeclToken, Token: name}
}

func inherit(prop int) api.Decl { return api.Decl{Prop: prop, Source: api.DeclInherit} }

func initially(prop int) api.Decl { return api.Decl{Prop: prop, Source: api.DeclInitial} }

func sheetOf(l ...api.Rule) api.Sheet { return api.Sheet{Rules: l} }

func decls(l ...api.Decl) api.Rule { return api.Rule{Decls: l} }

// expect checks the error of a sheet, also where a valid rule stands before it, and where any rule stands after it.
func expect(t *testing.T, s api.Sheet, want api.Errno) {
	t.Helper()
	good := decls(literal(api.PropColor, 1))
	if got := Validate(s); got != want {
		t.Errorf("P17.2: Validate = %d, want %d: %s", got, want, show(s))
	}
	if len(s.Rules) >= api.MaxRules {
		return
	}
	if got := Validate(sheetOf(slices.Insert(slices.Clone(s.Rules), 0, good)...)); got != want {
		t.Errorf("P17.2: Validate after a valid rule = %d, want %d: %s", got, want, show(s))
	}
	for _, r := range []api.Rule{{Kind: -1}, {Class: "."}, {States: 32}, decls(api.Decl{Source: 4})} {
		if got := Validate(sheetOf(slices.Concat(s.Rules, []api.Rule{r})...)); want != api.OK && got != want {
			t.Errorf("P17.2: Validate before a rule that is not valid = %d, want %d: %s", got, want, show(s))
		}
	}
}

func expectRule(t *testing.T, r api.Rule, want api.Errno) {
	t.Helper()
	expect(t, sheetOf(r), want)
}

// expectDecl checks the error of a declaration, also where a valid one stands before it, and where any stands after it.
func expectDecl(t *testing.T, d api.Decl, want api.Errno) {
	t.Helper()
	expectRule(t, decls(d), want)
	expectRule(t, decls(literal(api.PropColor, 1), d), want)
	expectRule(t, decls(token(api.PropDisplay, "a"), d, literal(api.PropGap, 0)), want)
	if want != api.OK {
		for _, other := range []api.Decl{{Prop: -1}, {Source: 4}, literal(api.PropGap, -1), token(api.PropColor, "")} {
			expectRule(t, decls(d, other), want)
		}
	}
}

func TestNumberOfRules(t *testing.T) {
	expect(t, api.Sheet{}, api.OK)
	expect(t, sheetOf(api.Rule{}), api.OK)
	full := slices.Repeat([]api.Rule{decls(literal(api.PropGap, 1))}, 100)
	expect(t, sheetOf(full[:99]...), api.OK)
	expect(t, sheetOf(full...), api.OK)
	expect(t, sheetOf(append(full, api.Rule{})...), api.ErrTooLong)
	expect(t, sheetOf(slices.Repeat([]api.Rule{{Kind: -1}}, 101)...), api.ErrTooLong)
	// What is wrong with the last one of the allowed rules is found.
	full[99].Kind = 14
	expect(t, sheetOf(full...), api.ErrKind)
}

func TestKinds(t *testing.T) {
	for _, n := range []int{0, 1, 2, 12, 13} {
		expectRule(t, api.Rule{Kind: n}, api.OK)
		expectRule(t, api.Rule{UnderKind: n}, api.OK)
		expectRule(t, api.Rule{Kind: 13 - n, UnderKind: n}, api.OK)
	}
	for _, n := range []int{math.MinInt, -13, -1, 14, 1 << 32, math.MaxInt} {
		expectRule(t, api.Rule{Kind: n}, api.ErrKind)
		expectRule(t, api.Rule{UnderKind: n}, api.ErrKind)
		expectRule(t, api.Rule{Kind: n, UnderKind: 1}, api.ErrKind)
		expectRule(t, api.Rule{Kind: 1, UnderKind: n}, api.ErrKind)
	}
}

func TestClasses(t *testing.T) {
	for _, s := range []string{"", "a", "Z", "big-one", "a_1", strings.Repeat("c", 24)} {
		expectRule(t, api.Rule{Class: s}, api.OK)
		expectRule(t, api.Rule{UnderClass: s}, api.OK)
		expectRule(t, api.Rule{Class: s, UnderClass: "x"}, api.OK)
	}
	for _, s := range []string{" ", "1", "-a", "_", "a b", "a.", "\u00e4", "\xff", strings.Repeat("c", 25)} {
		expectRule(t, api.Rule{Class: s}, api.ErrName)
		expectRule(t, api.Rule{UnderClass: s}, api.ErrName)
		expectRule(t, api.Rule{Class: "x", UnderClass: s}, api.ErrName)
		expectRule(t, api.Rule{Class: s, UnderClass: "x"}, api.ErrName)
	}
}

func TestRuleStates(t *testing.T) {
	for n := -2; n < 40; n++ {
		want := api.OK
		if n < 0 || n > 31 {
			want = api.ErrRange
		}
		expectRule(t, api.Rule{States: n}, want)
	}
	for _, n := range []int{math.MinInt, 1 << 32, math.MaxInt} {
		expectRule(t, api.Rule{States: n}, api.ErrRange)
	}
}

func TestNumberOfDecls(t *testing.T) {
	l := slices.Repeat([]api.Decl{literal(api.PropGap, 1)}, 50)
	expectRule(t, decls(), api.OK)
	expectRule(t, decls(l[:49]...), api.OK)
	expectRule(t, decls(l...), api.OK)
	expectRule(t, decls(append(l, l[0])...), api.ErrTooLong)
	expectRule(t, decls(slices.Repeat([]api.Decl{{Prop: -1}}, 51)...), api.ErrTooLong)
	expect(t, sheetOf(decls(l...), decls(l...)), api.OK)
	l[49].N = -1
	expectRule(t, decls(l...), api.ErrRange)
}

func TestDeclProps(t *testing.T) {
	for prop := range 22 {
		for source := range 4 {
			d := api.Decl{Prop: prop, Source: source}
			switch source {
			case api.DeclLiteral:
				d.N = 1
			case api.DeclToken:
				d.Token = "ink"
			}
			expectDecl(t, d, api.OK)
		}
	}
	for _, prop := range []int{math.MinInt, -1, 22, 23, 1 << 32, math.MaxInt} {
		for _, d := range []api.Decl{literal(prop, 0), token(prop, "ink"), inherit(prop), initially(prop), {Prop: prop, Source: 4}, {Prop: prop, N: -9, Token: "."}} {
			expectDecl(t, d, api.ErrRange)
		}
	}
}

func TestSources(t *testing.T) {
	for _, source := range []int{math.MinInt, -1, 4, 5, 1 << 32, math.MaxInt} {
		expectDecl(t, api.Decl{Prop: api.PropGap, Source: source}, api.ErrKind)
	}
	for _, d := range []api.Decl{
		{Source: api.DeclLiteral, Token: "a"}, {Source: api.DeclLiteral, N: 1, Token: "a"}, {Source: api.DeclLiteral, N: -1, Token: "."},
		{Source: api.DeclToken, N: 1, Token: "a"}, {Source: api.DeclToken, N: -1}, {Source: api.DeclToken, N: 1 << 30, Token: "1"},
		{Source: api.DeclInherit, N: 1}, {Source: api.DeclInherit, Token: "a"}, {Source: api.DeclInherit, N: -1, Token: "."},
		{Source: api.DeclInitial, N: 1}, {Source: api.DeclInitial, Token: "a"}, {Source: api.DeclInitial, N: -1, Token: "."},
	} {
		for prop := range 22 {
			d.Prop = prop
			expectDecl(t, d, api.ErrKind)
		}
	}
}

func TestLiterals(t *testing.T) {
	for _, x := range rows() {
		for _, n := range []int{math.MinInt, -2, -1, 0, 1, x.least - 1, x.least, x.initial, x.most, x.most + 1, math.MaxInt} {
			want := api.ErrRange
			if x.least <= n && n <= x.most {
				want = api.OK
			}
			expectDecl(t, literal(x.prop, n), want)
		}
	}
}

func TestTokens(t *testing.T) {
	for _, s := range []string{"a", "Z", "ink-2", strings.Repeat("t", 24)} {
		expectDecl(t, token(api.PropColor, s), api.OK)
	}
	for _, s := range []string{"", "1", "-a", "a b", "\u00e4", "\xff", strings.Repeat("t", 25)} {
		expectDecl(t, token(api.PropColor, s), api.ErrName)
	}
}

// TestConflicts declares each property in all states.
func TestConflicts(t *testing.T) {
	for states := range 32 {
		for prop := range 22 {
			want := api.OK
			if (prop == 5 || prop == 21) && (states&1 != 0 || states&2 != 0 || states&4 != 0) {
				want = api.ErrConflict
			}
			for _, d := range []api.Decl{literal(prop, 1), token(prop, "ink"), inherit(prop), initially(prop)} {
				expectRule(t, api.Rule{States: states, Decls: []api.Decl{d}}, want)
				expectRule(t, api.Rule{Kind: 1, Class: "a", States: states, Decls: []api.Decl{literal(api.PropGap, 1), d, {Prop: 22}}}, max(want, api.ErrRange))
			}
		}
	}
}

// TestErrorOrder makes rules and declarations with several errors.
func TestErrorOrder(t *testing.T) {
	many := slices.Repeat([]api.Decl{{Prop: -1}}, 51)
	expectRule(t, api.Rule{Kind: -1, Class: ".", States: 32, Decls: many}, api.ErrKind)
	expectRule(t, api.Rule{UnderKind: 14, Class: ".", States: 32, Decls: many}, api.ErrKind)
	expectRule(t, api.Rule{Class: ".", States: 32, Decls: many}, api.ErrName)
	expectRule(t, api.Rule{UnderClass: ".", States: -1, Decls: many}, api.ErrName)
	expectRule(t, api.Rule{States: 32, Decls: many}, api.ErrRange)
	expectRule(t, api.Rule{States: 1, Decls: many}, api.ErrTooLong)
	expectRule(t, api.Rule{States: 32, Decls: []api.Decl{{Source: 4}}}, api.ErrRange)
	for _, x := range []struct {
		d    api.Decl
		want api.Errno
	}{
		{api.Decl{Prop: 22, Source: 4, N: -5, Token: "."}, api.ErrRange},
		{api.Decl{Prop: api.PropDisplay, Source: 4, N: -5, Token: "."}, api.ErrKind},
		{api.Decl{Prop: api.PropDisplay, Source: api.DeclLiteral, N: 5, Token: "a"}, api.ErrKind},
		{api.Decl{Prop: api.PropDisplay, Source: api.DeclToken, N: 5, Token: "."}, api.ErrKind},
		{literal(api.PropDisplay, 5), api.ErrRange},
		{literal(api.PropVisibility, -1), api.ErrRange},
		{token(api.PropDisplay, "."), api.ErrName},
		{token(api.PropVisibility, ""), api.ErrName},
		{literal(api.PropVisibility, 1), api.ErrConflict},
	} {
		for _, state := range []int{api.StateHovered, api.StatePressed, api.StateFocused} {
			expectRule(t, api.Rule{States: state, Decls: []api.Decl{x.d}}, x.want)
			expectRule(t, api.Rule{States: state, Decls: []api.Decl{literal(api.PropGap, 1), x.d, {Prop: 22}, {Source: 4}}}, x.want)
		}
	}
	// The conflict is found before a later declaration and a later rule.
	expect(t, sheetOf(api.Rule{States: 1, Decls: []api.Decl{inherit(api.PropDisplay), {Prop: -1}}}, api.Rule{Kind: -1}), api.ErrConflict)
}

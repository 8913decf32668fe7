package source

import (
	"math"
	"slices"
	"strings"
	"testing"

	"widgetry/api"
)

// fullProgram is a program with all kinds of parts.
func fullProgram() api.Program {
	button := view("button", view("label"), api.Template{Kind: api.TemplateIf, E: one(cond(1)), Kids: []api.Template{view("image")}})
	button.Key, button.Settings = one(str("k")), []api.Setting{{Name: "x", E: lit(1)}, {Name: "y", E: lit(2)}}
	button.Hooks = []api.Hook{{Event: "press", Handler: "go", Args: []api.Expr{lit(1), name("n")}}}
	each := api.Template{Kind: api.TemplateEach, Var: "v", E: one(op(api.OpList, lit(1))), Key: one(op(api.OpShow, name("v"))), Kids: []api.Template{button}}
	call := api.Template{Kind: api.TemplateCall, Name: "b", Key: one(str("k")), Settings: []api.Setting{{Name: "x", E: lit(1)}}}
	return api.Program{Components: []api.Component{{
		Name: "a", Params: []string{"p", "q"}, Slots: []api.Slot{{Name: "n", Init: lit(0)}},
		Handlers: []api.Handler{{Name: "go", Params: []string{"r"}, Sets: []api.Assign{{Slot: "n", E: name("r")}}, Emit: []api.Expr{lit(1), name("n")}}},
		Effects:  []api.Effect{{Deps: []api.Expr{name("n"), lit(2)}, Emit: name("n")}},
		Body:     []api.Template{each, call},
	}, {Name: "b"}}}
}

const fullText = `(component a (p q) (state n 0) (on go (r) (set n r) (emit 1) (emit n)) (effect (n 2) n) ` +
	`(each v (list 1) (show v) (view button (key "k") (attr x 1) (attr y 2) (event press go 1 n) (view label) (when true (view image)))) (call b (key "k") (attr x 1)))` + "\n(component b ())\n"

// namesOf returns pointers to all names of fullProgram.
func namesOf(p *api.Program) []*string {
	c := &p.Components[0]
	h, each, call := &c.Handlers[0], &c.Body[0], &c.Body[1]
	button := &each.Kids[0]
	return []*string{
		&c.Name, &c.Params[0], &c.Params[1], &c.Slots[0].Name, &h.Name, &h.Params[0], &h.Sets[0].Slot, &each.Var, &button.Settings[0].Name, &button.Settings[1].Name,
		&button.Hooks[0].Event, &button.Hooks[0].Handler, &call.Name, &call.Settings[0].Name, &p.Components[1].Name,
	}
}

// expressionsOf returns pointers to all expressions of fullProgram that are no operands.
func expressionsOf(p *api.Program) []*api.Expr {
	c := &p.Components[0]
	h, f, each, call := &c.Handlers[0], &c.Effects[0], &c.Body[0], &c.Body[1]
	button := &each.Kids[0]
	return []*api.Expr{
		&c.Slots[0].Init, &h.Sets[0].E, &h.Emit[0], &h.Emit[1], &f.Deps[0], &f.Deps[1], &f.Emit, &each.E[0], &each.Key[0], &button.Key[0], &button.Settings[0].E, &button.Settings[1].E,
		&button.Hooks[0].Args[0], &button.Hooks[0].Args[1], &button.Kids[1].E[0], &call.Key[0], &call.Settings[0].E,
	}
}

// testNoText: no text describes p.
func testNoText(t *testing.T, p api.Program) {
	t.Helper()
	if got, err := Format(p); got != "" || err != api.ErrSyntax {
		t.Errorf("P12.2: Format(%v) = %q, %d, want %d", p, got, err, api.ErrSyntax)
	}
}

// wrongExpressions are expressions that no text describes.
func wrongExpressions() []api.Expr {
	_, deep := nots(api.MaxDepth, "", lit(1))
	_, deepList := nots(api.MaxDepth, "", op(api.OpList))
	return []api.Expr{
		{}, {Op: -1}, {Op: 22}, {Op: math.MinInt}, {Op: math.MaxInt}, {Op: math.MinInt + 5, Args: []api.Expr{lit(1), lit(1)}}, {Op: 22, Args: []api.Expr{lit(1), lit(1)}},
		lit(api.MaxNumber + 1), lit(-api.MaxNumber - 1), lit(math.MinInt), lit(math.MaxInt), {Op: api.OpInt, S: "a"}, op(api.OpInt, lit(1)),
		cond(2), cond(-1), {Op: api.OpBool, N: 1, S: "a"}, op(api.OpBool, lit(1)),
		str("\x00"), str("\t"), str("a\r"), str("\x1F"), str("\n\v\n"), str("\xFF"), str("a\xC3"), str("\xED\xA0\x80"), str(strings.Repeat("a", api.MaxString+1)), str(strings.Repeat("\n", api.MaxString+1)), {Op: api.OpText, N: 1}, op(api.OpText, lit(1)),
		name("true"), name("false"), name(""), name("1"), name("-"), name("a b"), name("a)"), name("\u00E4"), name(strings.Repeat("a", api.MaxName+1)), {Op: api.OpVar, S: "a", N: 1}, {Op: api.OpVar, S: "a", Args: one(lit(1))},
		op(api.OpAdd), op(api.OpAdd, lit(1)), op(api.OpAdd, lit(1), lit(1), lit(1)), op(api.OpNot), op(api.OpNot, lit(1), lit(1)), op(api.OpLength), op(api.OpShow, lit(1), lit(1)), op(api.OpIf, lit(1), lit(1)), op(api.OpIf, lit(1), lit(1), lit(1), lit(1)),
		op(api.OpList, slices.Repeat(one(lit(1)), api.MaxKids+1)...), {Op: api.OpList, N: 1}, {Op: api.OpList, N: -1}, {Op: api.OpList, S: "a"}, {Op: api.OpNot, N: -1, Args: one(lit(1))}, {Op: api.OpAdd, N: 1, Args: []api.Expr{lit(1), lit(1)}}, {Op: api.OpAdd, S: "+", Args: []api.Expr{lit(1), lit(1)}},
		deep, deepList, op(api.OpNot, name("?")), op(api.OpList, lit(1), op(api.OpNot), lit(1)), op(api.OpIf, lit(1), lit(1), name("true")),
	}
}

func TestFullProgram(t *testing.T) {
	full := fullProgram()
	testProgram(t, fullText, full)
	for i := range namesOf(&full) {
		p := fullProgram()
		*namesOf(&p)[i] = "another-1_name"
		if text, err := Format(p); err != api.OK || strings.Count(text, "another-1_name") != 1 {
			t.Errorf("P12.2: Format(%v) = %q, %d", p, text, err)
		}
		for _, s := range []string{"", "1", "-1", "_a", "a b", "a.b", "\u00E4", "a\xFF", "a)", "\"a\"", "a;", strings.Repeat("a", api.MaxName+1)} {
			*namesOf(&p)[i] = s
			testNoText(t, p)
		}
	}
	for i := range expressionsOf(&full) {
		p := fullProgram()
		for text, e := range map[string]api.Expr{"another": name("another"), "(list (list 77) (not true))": op(api.OpList, op(api.OpList, lit(77)), op(api.OpNot, cond(1)))} {
			*expressionsOf(&p)[i] = e
			if got, err := Format(p); err != api.OK || strings.Count(got, text) != 1 {
				t.Errorf("P12.2: Format(%v) = %q, %d", p, got, err)
			}
		}
		for _, e := range wrongExpressions() {
			*expressionsOf(&p)[i] = e
			testNoText(t, p)
		}
		_, deep := nots(api.MaxDepth-1, "", name("another"))
		*expressionsOf(&p)[i] = deep
		if got, err := Format(p); err != api.OK || strings.Count(got, "another") != 1 {
			t.Errorf("P12.2: Format(%v) = %q, %d", p, got, err)
		}
	}
	testNoText(t, api.Program{})
	testNoText(t, api.Program{Components: []api.Component{}})
}

func TestWrongExpressions(t *testing.T) {
	for _, e := range wrongExpressions() {
		for _, x := range []api.Expr{e, op(api.OpNot, e), op(api.OpList, lit(1), e), op(api.OpList, op(api.OpAdd, e, lit(1)), lit(1))} {
			if got, err := FormatExpr(x); got != "" || err != api.ErrSyntax {
				t.Errorf("P12.2: FormatExpr(%v) = %q, %d, want %d", x, got, err, api.ErrSyntax)
			}
		}
	}
}

// TestFields examines the fields that the templates of each kind have.
func TestFields(t *testing.T) {
	var (
		set      = api.Setting{Name: "x", E: lit(1)}
		hook     = api.Hook{Event: "x", Handler: "y"}
		settings = func(t *api.Template) { t.Settings = []api.Setting{set} }
		hooks    = func(t *api.Template) { t.Hooks = []api.Hook{hook} }
		kids     = func(t *api.Template) { t.Kids = []api.Template{view("list")} }
		variable = func(t *api.Template) { t.Var = "x" }
		listName = func(t *api.Template) { t.Name = "list" }
		noName   = func(t *api.Template) { t.Name = "" }
		otherKey = func(n int) func(t *api.Template) {
			return func(t *api.Template) { t.Key = slices.Repeat(one(lit(1)), n) }
		}
		otherE = func(n int) func(t *api.Template) {
			return func(t *api.Template) { t.E = slices.Repeat(one(lit(1)), n) }
		}
		nothing = func(t *api.Template) {}
	)
	kinds := []api.Template{view("list"), {Kind: api.TemplateIf, E: one(lit(1))}, {Kind: api.TemplateEach, Var: "x", E: one(lit(1)), Key: one(lit(1))}, {Kind: api.TemplateCall, Name: "list"}}
	for _, x := range []struct {
		field  string
		change func(*api.Template)
		// The kinds for which there is a text.
		kinds string
	}{
		{"nothing", nothing, "1234"}, {"Settings", settings, "14"}, {"Hooks", hooks, "1"}, {"Kids", kids, "123"}, {"Var", variable, "3"}, {"Name", listName, "14"}, {"no Name", noName, "23"},
		{"no Key", otherKey(0), "124"}, {"Key", otherKey(1), "134"}, {"two Keys", otherKey(2), ""}, {"no E", otherE(0), "14"}, {"E", otherE(1), "23"}, {"two E", otherE(2), ""},
		{"no Var", func(t *api.Template) { t.Var = "" }, "124"}, {"a wrong Var", func(t *api.Template) { t.Var = "?" }, ""}, {"another Name", func(t *api.Template) { t.Name = "other" }, "4"}, {"a wrong Name", func(t *api.Template) { t.Name = "?" }, ""},
		{"a wrong E", func(t *api.Template) { t.E = one(name("?")) }, ""}, {"a wrong Key", func(t *api.Template) { t.Key = one(name("?")) }, ""}, {"a wrong child", func(t *api.Template) { t.Kids = make([]api.Template, 1) }, ""},
		{"a wrong setting", func(t *api.Template) { t.Settings = make([]api.Setting, 1) }, ""}, {"a wrong hook", func(t *api.Template) { t.Hooks = make([]api.Hook, 1) }, ""},
		{"empty lists", func(t *api.Template) { t.Settings, t.Hooks, t.Kids = []api.Setting{}, []api.Hook{}, []api.Template{} }, "1234"},
		{"kind 0", func(t *api.Template) { t.Kind = 0 }, ""}, {"kind 5", func(t *api.Template) { t.Kind = 5 }, ""}, {"kind -1", func(t *api.Template) { t.Kind = -1 }, ""}, {"the least kind", func(t *api.Template) { t.Kind = math.MinInt }, ""}, {"the greatest kind", func(t *api.Template) { t.Kind = math.MaxInt }, ""},
	} {
		for i, k := range kinds {
			x.change(&k)
			for _, p := range []api.Program{body(k), body(view("group", view("group"), k))} {
				text, err := Format(p)
				if !strings.Contains(x.kinds, string(rune('1'+i))) {
					testNoText(t, p)
					continue
				}
				if got, _, parseErr := Parse(text); err != api.OK || parseErr != api.OK || !sameProgram(got, p) {
					t.Errorf("P12.2: %s: Format(%v) = %q, %d", x.field, p, text, err)
				}
			}
		}
	}
	empty := api.Program{Components: []api.Component{{Name: "a", Params: []string{}, Slots: []api.Slot{}, Handlers: []api.Handler{{Name: "b", Params: []string{}, Sets: []api.Assign{}, Emit: []api.Expr{}}}, Effects: []api.Effect{{Deps: []api.Expr{}, Emit: api.Expr{Op: api.OpList, Args: []api.Expr{}}}}, Body: []api.Template{}}}}
	testProgram(t, "(component a () (on b ()) (effect () (list)))\n", empty)
}

func TestDeepFormat(t *testing.T) {
	for i, outer := range []func(api.Template) api.Template{
		func(k api.Template) api.Template { return view("group", view("list"), k) },
		func(k api.Template) api.Template {
			return api.Template{Kind: api.TemplateIf, E: one(lit(1)), Kids: []api.Template{k}}
		},
		func(k api.Template) api.Template {
			return api.Template{Kind: api.TemplateEach, Var: "x", E: one(lit(1)), Key: one(lit(1)), Kids: []api.Template{k, view("list")}}
		},
	} {
		for _, inner := range fullProgram().Components[0].Body[1:] {
			for range api.MaxDepth - 1 {
				inner = outer(inner)
			}
			text, err := Format(body(inner))
			if p, _, parseErr := Parse(text); err != api.OK || parseErr != api.OK || !sameProgram(p, body(inner)) {
				t.Errorf("P12.2: Format of the deepest templates, %d: %q, %d", i, text, err)
			}
			testNoText(t, body(outer(inner)))
			testNoText(t, body(view("list"), outer(inner)))
		}
	}
}

// longList returns a list of strings whose text has n bytes: 6, or at least 9.
func longList(n int) api.Expr {
	e := op(api.OpList)
	n -= len("(list)")
	for n > 0 {
		// A string takes three bytes more than its runes; what is left over has to be enough for one.
		length := min(n, 1503)
		if n > length && n-length < 3 {
			length = n - 3
		}
		e.Args = append(e.Args, str(strings.Repeat("a", length-3)))
		n -= length
	}
	return e
}

func TestLongFormat(t *testing.T) {
	for _, n := range []int{6, 9, 1509, 1510, 1512, api.MaxProgram - 1, api.MaxProgram} {
		text, err := FormatExpr(longList(n))
		if e, _, parseErr := ParseExpr(text); len(text) != n || err != api.OK || parseErr != api.OK || !sameExpr(e, longList(n)) {
			t.Errorf("P12.2: FormatExpr of %d bytes: %d bytes, %d", n, len(text), err)
		}
	}
	for _, n := range []int{api.MaxProgram + 1, api.MaxProgram + 2, api.MaxProgram + 2000, 3 * api.MaxProgram} {
		if text, err := FormatExpr(longList(n)); text != "" || err != api.ErrTooLong {
			t.Errorf("P12.2: FormatExpr of %d bytes: %d bytes, %d", n, len(text), err)
		}
		wrong := longList(n)
		wrong.Args = append(wrong.Args, name("?"))
		if text, err := FormatExpr(wrong); text != "" || err != api.ErrSyntax {
			t.Errorf("P12.2: FormatExpr of %d bytes and no name: %d bytes, %d", n, len(text), err)
		}
	}
	rest := len("(component a () (state n ))\n")
	for n, want := range map[int]api.Errno{api.MaxProgram - 1: api.OK, api.MaxProgram: api.OK, api.MaxProgram + 1: api.ErrTooLong, api.MaxProgram + 2: api.ErrTooLong, 2 * api.MaxProgram: api.ErrTooLong} {
		p := api.Program{Components: []api.Component{{Name: "a", Slots: []api.Slot{{Name: "n", Init: longList(n - rest)}}}}}
		text, err := Format(p)
		if err != want || err == api.OK && len(text) != n || err != api.OK && text != "" {
			t.Errorf("P12.2: Format of %d bytes: %d bytes, %d", n, len(text), err)
		}
		p.Components = append(p.Components, api.Component{})
		testNoText(t, p)
	}
}

// TestWrongAndLong: where something is wrong behind a long text, there is no text.
func TestWrongAndLong(t *testing.T) {
	full := fullProgram()
	for i := range namesOf(&full) {
		p := fullProgram()
		*namesOf(&p)[i] = "?"
		testNoText(t, api.Program{Components: slices.Concat(slices.Repeat(full.Components, 200), p.Components)})
	}
	for i := range expressionsOf(&full) {
		p := fullProgram()
		_, e := nots(api.MaxDepth, "", lit(1))
		*expressionsOf(&p)[i] = e
		testNoText(t, api.Program{Components: slices.Concat(slices.Repeat(full.Components, 200), p.Components)})
	}
	if text, err := Format(api.Program{Components: slices.Repeat(full.Components, 200)}); text != "" || err != api.ErrTooLong {
		t.Errorf("P12.2: Format of 400 components: %d bytes, %d", len(text), err)
	}
}

package source

import (
	"slices"
	"strings"
	"testing"

	"widgetry/api"
)

// Expressions.
func op(op int, args ...api.Expr) api.Expr { return api.Expr{Op: op, Args: args} }
func lit(n int) api.Expr                   { return api.Expr{Op: api.OpInt, N: n} }
func cond(n int) api.Expr                  { return api.Expr{Op: api.OpBool, N: n} }
func str(s string) api.Expr                { return api.Expr{Op: api.OpText, S: s} }
func name(s string) api.Expr               { return api.Expr{Op: api.OpVar, S: s} }
func one(e api.Expr) []api.Expr            { return []api.Expr{e} }

// view returns a view with these children.
func view(kind string, kids ...api.Template) api.Template {
	return api.Template{Kind: api.TemplateElement, Name: kind, Kids: kids}
}

// body returns a program with one component that has only a body.
func body(l ...api.Template) api.Program {
	return api.Program{Components: []api.Component{{Name: "a", Body: l}}}
}

func sameExpr(a, b api.Expr) bool {
	return a.Op == b.Op && a.N == b.N && a.S == b.S && sameExprs(a.Args, b.Args)
}

func sameExprs(a, b []api.Expr) bool { return slices.EqualFunc(a, b, sameExpr) }

func sameTemplate(a, b api.Template) bool {
	return a.Kind == b.Kind && a.Name == b.Name && a.Var == b.Var && sameExprs(a.Key, b.Key) && sameExprs(a.E, b.E) && slices.EqualFunc(a.Kids, b.Kids, sameTemplate) &&
		slices.EqualFunc(a.Settings, b.Settings, func(a, b api.Setting) bool { return a.Name == b.Name && sameExpr(a.E, b.E) }) &&
		slices.EqualFunc(a.Hooks, b.Hooks, func(a, b api.Hook) bool {
			return a.Event == b.Event && a.Handler == b.Handler && sameExprs(a.Args, b.Args)
		})
}

func sameHandler(a, b api.Handler) bool {
	return a.Name == b.Name && slices.Equal(a.Params, b.Params) && sameExprs(a.Emit, b.Emit) &&
		slices.EqualFunc(a.Sets, b.Sets, func(a, b api.Assign) bool { return a.Slot == b.Slot && sameExpr(a.E, b.E) })
}

func sameComponent(a, b api.Component) bool {
	return a.Name == b.Name && slices.Equal(a.Params, b.Params) && slices.EqualFunc(a.Handlers, b.Handlers, sameHandler) && slices.EqualFunc(a.Body, b.Body, sameTemplate) &&
		slices.EqualFunc(a.Slots, b.Slots, func(a, b api.Slot) bool { return a.Name == b.Name && sameExpr(a.Init, b.Init) }) &&
		slices.EqualFunc(a.Effects, b.Effects, func(a, b api.Effect) bool { return sameExprs(a.Deps, b.Deps) && sameExpr(a.Emit, b.Emit) })
}

func sameProgram(a, b api.Program) bool {
	return slices.EqualFunc(a.Components, b.Components, sameComponent)
}

// testProgram: the text is the one of p, with spaces as Format writes them.
func testProgram(t *testing.T, text string, want api.Program) {
	t.Helper()
	if got, offset, err := Parse(text); offset != 0 || err != api.OK || !sameProgram(got, want) {
		t.Errorf("P12.1: Parse(%q) = %v, %d, %d, want %v", text, got, offset, err, want)
	}
	if got, err := Format(want); got != text || err != api.OK {
		t.Errorf("P12.2: Format(%v) = %q, %d, want %q", want, got, err, text)
	}
}

func TestComponents(t *testing.T) {
	component := func(c api.Component) api.Program {
		c.Name = "a"
		return api.Program{Components: []api.Component{c}}
	}
	for _, x := range []struct {
		text string
		want api.Program
	}{
		{"(component a ())\n", body()},
		{"(component a (x))\n", component(api.Component{Params: []string{"x"}})},
		{"(component a (x y x))\n", component(api.Component{Params: []string{"x", "y", "x"}})},
		{"(component a ())\n(component b-1_ (x))\n(component a ())\n", api.Program{Components: []api.Component{{Name: "a"}, {Name: "b-1_", Params: []string{"x"}}, {Name: "a"}}}},
		{"(component a () (state n 0))\n", component(api.Component{Slots: []api.Slot{{Name: "n", Init: lit(0)}}})},
		{"(component a () (state n 0) (state m \"\"))\n", component(api.Component{Slots: []api.Slot{{Name: "n", Init: lit(0)}, {Name: "m", Init: str("")}}})},
		{"(component a () (on go ()))\n", component(api.Component{Handlers: []api.Handler{{Name: "go"}}})},
		{"(component a () (on go (x y)) (on stop (z)))\n", component(api.Component{Handlers: []api.Handler{{Name: "go", Params: []string{"x", "y"}}, {Name: "stop", Params: []string{"z"}}}})},
		{"(component a () (on go () (set n 1) (set m 2)))\n", component(api.Component{Handlers: []api.Handler{{Name: "go", Sets: []api.Assign{{Slot: "n", E: lit(1)}, {Slot: "m", E: lit(2)}}}}})},
		{"(component a () (on go () (emit 1) (emit 2)))\n", component(api.Component{Handlers: []api.Handler{{Name: "go", Emit: []api.Expr{lit(1), lit(2)}}}})},
		{"(component a () (on go (x) (set n x) (emit n)))\n", component(api.Component{Handlers: []api.Handler{{Name: "go", Params: []string{"x"}, Sets: []api.Assign{{Slot: "n", E: name("x")}}, Emit: one(name("n"))}}})},
		{"(component a () (effect () 1))\n", component(api.Component{Effects: []api.Effect{{Emit: lit(1)}}})},
		{"(component a () (effect (n (+ n 1)) 1) (effect (2) (list)))\n", component(api.Component{Effects: []api.Effect{{Deps: []api.Expr{name("n"), op(api.OpAdd, name("n"), lit(1))}, Emit: lit(1)}, {Deps: one(lit(2)), Emit: op(api.OpList)}}})},
		{"(component a (p) (state n 1) (on go ()) (effect () 2) (when true))\n", component(api.Component{Params: []string{"p"}, Slots: []api.Slot{{Name: "n", Init: lit(1)}}, Handlers: []api.Handler{{Name: "go"}}, Effects: []api.Effect{{Emit: lit(2)}}, Body: []api.Template{{Kind: api.TemplateIf, E: one(cond(1))}}})},
		{"(component component (component state) (state state state) (on on (on) (set set set) (emit emit)) (effect (effect) effect) (each each each each (call call)))\n", api.Program{Components: []api.Component{{
			Name: "component", Params: []string{"component", "state"}, Slots: []api.Slot{{Name: "state", Init: name("state")}}, Handlers: []api.Handler{{Name: "on", Params: []string{"on"}, Sets: []api.Assign{{Slot: "set", E: name("set")}}, Emit: one(name("emit"))}},
			Effects: []api.Effect{{Deps: one(name("effect")), Emit: name("effect")}}, Body: []api.Template{{Kind: api.TemplateEach, Var: "each", E: one(name("each")), Key: one(name("each")), Kids: []api.Template{{Kind: api.TemplateCall, Name: "call"}}}},
		}}}},
		{"(component true (false) (state true false))\n", api.Program{Components: []api.Component{{Name: "true", Params: []string{"false"}, Slots: []api.Slot{{Name: "true", Init: cond(0)}}}}}},
	} {
		testProgram(t, x.text, x.want)
	}
}

func TestTemplates(t *testing.T) {
	full := view("button", view("label"), view("image"))
	full.Key, full.Settings = one(str("k")), []api.Setting{{Name: "x", E: lit(1)}, {Name: "y", E: lit(2)}}
	full.Hooks = []api.Hook{{Event: "press", Handler: "go"}, {Event: "focus", Handler: "stop", Args: []api.Expr{lit(1), name("n")}}}
	keyed := view("list")
	keyed.Key = one(name("list"))
	for _, x := range []struct {
		text string
		want []api.Template
	}{
		{"(view group)", []api.Template{view("group")}},
		{"(view item) (view dialog)", []api.Template{view("item"), view("dialog")}},
		{`(view button (key "k") (attr x 1) (attr y 2) (event press go) (event focus stop 1 n) (view label) (view image))`, []api.Template{full}},
		{"(view list (key list))", []api.Template{keyed}},
		{"(view group (when true) (each x l x) (call a) (view group))", []api.Template{view("group", api.Template{Kind: api.TemplateIf, E: one(cond(1))}, api.Template{Kind: api.TemplateEach, Var: "x", E: one(name("l")), Key: one(name("x"))}, api.Template{Kind: api.TemplateCall, Name: "a"}, view("group"))}},
		{"(when (< n 1) (view field) (when false))", []api.Template{{Kind: api.TemplateIf, E: one(op(api.OpLess, name("n"), lit(1))), Kids: []api.Template{view("field"), {Kind: api.TemplateIf, E: one(cond(0))}}}}},
		{"(each x (list 1 2) (show x) (view item) (call a))", []api.Template{{Kind: api.TemplateEach, Var: "x", E: one(op(api.OpList, lit(1), lit(2))), Key: one(op(api.OpShow, name("x"))), Kids: []api.Template{view("item"), {Kind: api.TemplateCall, Name: "a"}}}}},
		{`(call b (key "k") (attr x 1) (attr y n))`, []api.Template{{Kind: api.TemplateCall, Name: "b", Key: one(str("k")), Settings: []api.Setting{{Name: "x", E: lit(1)}, {Name: "y", E: name("n")}}}}},
		{"(call b (attr x 1)) (call b (key x))", []api.Template{{Kind: api.TemplateCall, Name: "b", Settings: []api.Setting{{Name: "x", E: lit(1)}}}, {Kind: api.TemplateCall, Name: "b", Key: one(name("x"))}}},
	} {
		testProgram(t, "(component a () "+x.text+")\n", body(x.want...))
	}
}

func TestViewWords(t *testing.T) {
	words := strings.Fields("group label button field image check link scroll heading list item dialog slider")
	if len(words) != api.MostKind {
		t.Fatalf("chapter 12: %d kinds", len(words))
	}
	for _, w := range words {
		testProgram(t, "(component a () (view "+w+"))\n", body(view(w)))
	}
}

func TestExample(t *testing.T) {
	text := `(component main () (state n 0) (on go () (set n (+ n 1))) (view button (event press go) (view label (attr text (show n)))))`
	label, button := view("label"), view("button")
	label.Settings = []api.Setting{{Name: "text", E: op(api.OpShow, name("n"))}}
	button.Hooks, button.Kids = []api.Hook{{Event: "press", Handler: "go"}}, []api.Template{label}
	testProgram(t, text+"\n", api.Program{Components: []api.Component{{
		Name: "main", Slots: []api.Slot{{Name: "n", Init: lit(0)}}, Handlers: []api.Handler{{Name: "go", Sets: []api.Assign{{Slot: "n", E: op(api.OpAdd, name("n"), lit(1))}}}}, Body: []api.Template{button},
	}}})
}

// testExpr: the text is the one of e, with spaces as FormatExpr writes them.
func testExpr(t *testing.T, text string, want api.Expr) {
	t.Helper()
	if got, offset, err := ParseExpr(text); offset != 0 || err != api.OK || !sameExpr(got, want) {
		t.Errorf("P12.2: ParseExpr(%q) = %v, %d, %d, want %v", text, got, offset, err, want)
	}
	if got, err := FormatExpr(want); got != text || err != api.OK {
		t.Errorf("P12.2: FormatExpr(%v) = %q, %d, want %q", want, got, err, text)
	}
	testProgram(t, "(component a () (state n "+text+"))\n", api.Program{Components: []api.Component{{Name: "a", Slots: []api.Slot{{Name: "n", Init: want}}}}})
}

func TestExpressions(t *testing.T) {
	n, m := name("n"), lit(-1)
	for text, want := range map[string]api.Expr{
		"0": lit(0), "7": lit(7), "-1": m, "10": lit(10), "-90": lit(-90), "1099511627776": lit(api.MaxNumber), "-1099511627776": lit(-api.MaxNumber),
		"true": cond(1), "false": cond(0), "True": name("True"), "truex": name("truex"), "x-1_Y": name("x-1_Y"), "abcdefghijklmnopqrstuvwx": name("abcdefghijklmnopqrstuvwx"),
		"mod": name("mod"), "not": name("not"), "if": name("if"), "list": name("list"), "view": name("view"), "component": name("component"), "key": name("key"),
		`""`: str(""), `"a b"`: str("a b"), `"true"`: str("true"), `"1"`: str("1"), `"\""`: str(`"`), `"\\"`: str(`\`), `"\n"`: str("\n"), `"\\n"`: str(`\n`), `"\\\"\n\\"`: str("\\\"\n\\"), `"(); "`: str("(); "),
		"\"\x7F\u05D0\U0001F600\u0085\"": str("\x7F\u05D0\U0001F600\u0085"),
		"(+ n -1)":                       op(api.OpAdd, n, m), "(- n -1)": op(api.OpSub, n, m), "(* n -1)": op(api.OpMul, n, m), "(/ n -1)": op(api.OpDiv, n, m), "(mod n -1)": op(api.OpMod, n, m), "(< n -1)": op(api.OpLess, n, m), "(= n -1)": op(api.OpEqual, n, m),
		"(not n)": op(api.OpNot, n), "(and n -1)": op(api.OpAnd, n, m), "(or n -1)": op(api.OpOr, n, m), "(if n -1 n)": op(api.OpIf, n, m, n), "(concat n -1)": op(api.OpConcat, n, m), "(length n)": op(api.OpLength, n), "(show n)": op(api.OpShow, n),
		"(list)": op(api.OpList), "(list n)": op(api.OpList, n), "(list n -1 n n)": op(api.OpList, n, m, n, n), "(item n -1)": op(api.OpItem, n, m), "(drop n -1)": op(api.OpDrop, n, m),
		`(if (< n 2) "few" "many")`:                     op(api.OpIf, op(api.OpLess, n, lit(2)), str("few"), str("many")),
		`(+ (- 1 2) (* (/ 3 4) -1))`:                    op(api.OpAdd, op(api.OpSub, lit(1), lit(2)), op(api.OpMul, op(api.OpDiv, lit(3), lit(4)), m)),
		`(list (list) (list (list "a")) (not (not x)))`: op(api.OpList, op(api.OpList), op(api.OpList, op(api.OpList, str("a"))), op(api.OpNot, op(api.OpNot, name("x")))),
	} {
		testExpr(t, text, want)
	}
}

// TestSpace examines what separates tokens.
func TestSpace(t *testing.T) {
	want := op(api.OpConcat, str("a"), op(api.OpIf, name("b"), name("c"), str("d")))
	for _, text := range []string{
		`(concat "a" (if b c "d"))`, `(concat"a"(if b c"d"))`, "\t(\r\nconcat \"a\"\n(\tif\rb\nc \"d\"\n)\r)\t", "( concat \"a\" ( if b c \"d\" ) ) ",
		"; (a comment) \"\n(concat;;\"a\"\n\"a\";\n(if b;c\nc\"d\"));", "(concat \"a\" (if b c; comment \xFF\x00\r \"x\")\n\"d\"))", ";\n;\n(concat \"a\" (if b c \"d\"))\n;", "(concat \"a\" (if b c \"d\"));\"",
	} {
		if got, offset, err := ParseExpr(text); offset != 0 || err != api.OK || !sameExpr(got, want) {
			t.Errorf("chapter 12: ParseExpr(%q) = %v, %d, %d", text, got, offset, err)
		}
		program, offset, err := Parse(";\n(component;\na()\n( state n" + text + "\n))\r\n")
		if offset != 0 || err != api.OK || !sameProgram(program, api.Program{Components: []api.Component{{Name: "a", Slots: []api.Slot{{Name: "n", Init: want}}}}}) {
			t.Errorf("chapter 12: Parse with %q = %v, %d, %d", text, program, offset, err)
		}
	}
	for b := range 256 {
		text := "(list a" + string([]byte{byte(b)}) + "b)"
		got, offset, err := ParseExpr(text)
		switch {
		case strings.IndexByte(" \t\r\n", byte(b)) >= 0:
			if err != api.OK || !sameExpr(got, op(api.OpList, name("a"), name("b"))) {
				t.Errorf("chapter 12: ParseExpr(%q) = %v, %d, %d", text, got, offset, err)
			}
		case strings.IndexByte("-_0123456789abcdefghijklmnopqrstuvwxyzABCDEFGHIJKLMNOPQRSTUVWXYZ", byte(b)) >= 0:
			if err != api.OK || !sameExpr(got, op(api.OpList, name(text[6:9]))) {
				t.Errorf("chapter 12: ParseExpr(%q) = %v, %d, %d", text, got, offset, err)
			}
		case b == ')':
			if offset != 8 || err != api.ErrSyntax {
				t.Errorf("chapter 12: ParseExpr(%q): %d, %d", text, offset, err)
			}
		case b == '(':
			if offset != 8 || err != api.ErrName {
				t.Errorf("chapter 12: ParseExpr(%q): %d, %d", text, offset, err)
			}
		case b == '"':
			if offset != 7 || err != api.ErrSyntax {
				t.Errorf("chapter 12: ParseExpr(%q): %d, %d", text, offset, err)
			}
		case b == ';':
			if offset != len(text) || err != api.ErrSyntax {
				t.Errorf("chapter 12: ParseExpr(%q): %d, %d", text, offset, err)
			}
		default:
			if offset != 6 || err != api.ErrName {
				t.Errorf("chapter 12: ParseExpr(%q): %d, %d", text, offset, err)
			}
		}
	}
}

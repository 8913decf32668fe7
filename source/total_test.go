package source

import (
	"slices"
	"strings"
	"testing"

	"widgetry/api"
)

// TestEndlessExpressions formats expressions that contain themselves (R1).
func TestEndlessExpressions(t *testing.T) {
	for o := range 23 {
		for _, n := range []int{1, 2, 3, api.MaxKids, api.MaxKids + 1} {
			args := make([]api.Expr, n)
			for i := range args {
				args[i] = op(o, args...)
			}
			if text, err := FormatExpr(args[0]); text != "" || err != api.ErrSyntax {
				t.Errorf("P12.2: FormatExpr of an expression with the operator %d and %d operands, itself: %q, %d", o, n, text, err)
			}
			testNoText(t, api.Program{Components: []api.Component{{Name: "a", Slots: []api.Slot{{Name: "n", Init: args[0]}}}}})
			testNoText(t, api.Program{Components: []api.Component{{Name: "a", Effects: []api.Effect{{Deps: args, Emit: lit(1)}}}}})
		}
	}
}

func TestEndlessTemplates(t *testing.T) {
	for kind := range 6 {
		for _, n := range []int{1, 2, 500} {
			kids := make([]api.Template, n)
			for i := range kids {
				kids[i] = api.Template{Kind: kind, Kids: kids}
				switch kind {
				case api.TemplateElement:
					kids[i].Name = "list"
				case api.TemplateIf:
					kids[i].E = one(lit(1))
				case api.TemplateEach:
					kids[i].Var, kids[i].E, kids[i].Key = "x", one(lit(1)), one(lit(1))
				case api.TemplateCall:
					kids[i].Name = "a"
				}
			}
			testNoText(t, body(kids...))
		}
	}
}

// wide returns a list that contains the same 100 lists, and so on, with e in the innermost one.
func wide(depth int, e api.Expr) api.Expr {
	for range depth {
		e = op(api.OpList, slices.Repeat(one(e), api.MaxKids)...)
	}
	return e
}

func wideTemplate(depth int, k api.Template) api.Template {
	for range depth {
		k = view("list", slices.Repeat([]api.Template{k}, api.MaxKids)...)
	}
	return k
}

// TestWide formats programs with an endless text, which take little memory (R1).
func TestWide(t *testing.T) {
	deep := api.MaxDepth - 1
	for _, x := range []struct {
		name string
		e    api.Expr
		want api.Errno
	}{
		{"right", wide(deep, lit(1)), api.ErrTooLong},
		{"too deep", wide(deep+1, lit(1)), api.ErrSyntax},
		{"wrong", wide(deep, name("?")), api.ErrSyntax},
		{"right twice", op(api.OpList, wide(deep-1, lit(1)), wide(deep-1, lit(2))), api.ErrTooLong},
		{"right, then wrong", op(api.OpList, wide(deep-1, lit(1)), wide(deep-1, name("?"))), api.ErrSyntax},
		{"right, then too deep", op(api.OpList, wide(deep-1, lit(1)), wide(deep, lit(1))), api.ErrSyntax},
		{"right, then the same too deep", func() api.Expr {
			e := wide(deep-2, op(api.OpList, op(api.OpList)))
			return op(api.OpList, e, op(api.OpNot, op(api.OpNot, e)))
		}(), api.ErrSyntax},
		{"right, then more of the same list", func() api.Expr {
			l := append(slices.Repeat(one(wide(3, lit(1))), 9), name("?"))
			return op(api.OpList, op(api.OpList, l[:9]...), op(api.OpList, l[:9]...), op(api.OpList, l...))
		}(), api.ErrSyntax},
		{"right, then another part of the same list", func() api.Expr {
			l := append(slices.Repeat(one(wide(3, lit(1))), 9), name("?"))
			return op(api.OpList, op(api.OpList, l[:9]...), op(api.OpList, l[:9]...), op(api.OpList, l[1:]...))
		}(), api.ErrSyntax},
	} {
		if text, err := FormatExpr(x.e); text != "" || err != x.want {
			t.Errorf("P12.2: FormatExpr of a wide list, %s: %d bytes, %d", x.name, len(text), err)
		}
		p := body(wideTemplate(deep, api.Template{Kind: api.TemplateCall, Name: "b", Settings: []api.Setting{{Name: "x", E: x.e}}}))
		if text, err := Format(p); text != "" || err != x.want {
			t.Errorf("P12.2: Format of wide templates with a wide list, %s: %d bytes, %d", x.name, len(text), err)
		}
	}
	testNoText(t, body(wideTemplate(deep+1, view("list"))))
	testNoText(t, body(wideTemplate(deep, view("lists"))))
	testNoText(t, body(wideTemplate(deep-1, view("list")), view("list", wideTemplate(deep, view("list")))))
}

func TestWideProgram(t *testing.T) {
	const n = 3000
	p := api.Program{Components: slices.Repeat([]api.Component{{
		Name: "a", Params: slices.Repeat([]string{"x"}, n), Slots: slices.Repeat([]api.Slot{{Name: "n", Init: lit(1)}}, n),
		Handlers: slices.Repeat([]api.Handler{{Name: "b", Params: slices.Repeat([]string{"x"}, n), Sets: slices.Repeat([]api.Assign{{Slot: "n", E: lit(1)}}, n), Emit: slices.Repeat(one(lit(1)), n)}}, n),
		Effects:  slices.Repeat([]api.Effect{{Deps: slices.Repeat(one(lit(1)), n), Emit: lit(1)}}, n),
		Body: slices.Repeat([]api.Template{{
			Kind: api.TemplateElement, Name: "list", Settings: slices.Repeat([]api.Setting{{Name: "x", E: lit(1)}}, n), Hooks: slices.Repeat([]api.Hook{{Event: "x", Handler: "y", Args: slices.Repeat(one(lit(1)), n)}}, n),
			Kids: slices.Repeat([]api.Template{view("list")}, n),
		}}, n),
	}}, n)}
	if text, err := Format(p); text != "" || err != api.ErrTooLong {
		t.Errorf("P12.2: Format of a wide program: %d bytes, %d", len(text), err)
	}
}

// TestMemory checks that Parse keeps nothing of what it has returned, and that Format changes nothing (R2).
func TestMemory(t *testing.T) {
	first, _, _ := Parse(fullText)
	second, _, _ := Parse(fullText)
	for _, s := range namesOf(&second) {
		*s = "other"
	}
	for _, e := range expressionsOf(&second) {
		*e = name("other")
	}
	if third, _, err := Parse(fullText); err != api.OK || !sameProgram(first, fullProgram()) || !sameProgram(third, fullProgram()) {
		t.Errorf("R2: results of Parse share memory: %v, %v", first, third)
	}
	for i := range namesOf(&first) {
		p, _, _ := Parse(fullText)
		*namesOf(&p)[i] = "other"
		if text, err := Format(p); err != api.OK || strings.Count(text, "other") != 1 {
			t.Errorf("R2: parts of a program share memory: %q, %d", text, err)
		}
	}
	for range 2 {
		if text, err := Format(first); text != fullText || err != api.OK || !sameProgram(first, fullProgram()) {
			t.Errorf("R2: Format has changed a program: %v, %q, %d", first, text, err)
		}
	}
}

// TestSharedLists formats lists that share memory and are short enough.
func TestSharedLists(t *testing.T) {
	l := []api.Expr{lit(1), lit(2), lit(3)}
	e := op(api.OpList, op(api.OpList, l...), op(api.OpList, l...), op(api.OpList, l[:2]...), op(api.OpList, op(api.OpList, l[:1]...), op(api.OpList, l[1:]...)), op(api.OpList, l...))
	testExpr(t, "(list (list 1 2 3) (list 1 2 3) (list 1 2) (list (list 1) (list 2 3)) (list 1 2 3))", e)
	names := []string{"x", "y"}
	testProgram(t, "(component x (x y) (on x (x y)) (on y (x y)))\n(component y (x y))\n", api.Program{Components: []api.Component{
		{Name: "x", Params: names, Handlers: []api.Handler{{Name: "x", Params: names}, {Name: "y", Params: names}}}, {Name: "y", Params: names},
	}})
}

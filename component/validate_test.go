package component

import (
	"slices"
	"strings"
	"testing"

	"widgetry/api"
)

func testValidate(t *testing.T, what string, p api.Program, want api.Errno) {
	t.Helper()
	if got := Validate(p); got != want {
		t.Errorf("P13.1: Validate of %s: %d, want %d", what, got, want)
	}
	if want != api.OK {
		testRefused(t, p, api.Running{Instances: []api.Instance{{}, {}}}, want, api.Value{})
		testNotHandled(t, p, api.Running{Instances: []api.Instance{{}, {}}}, api.Action{}, want, api.Value{})
	}
}

// TestParts counts the parts of a program: 1 is the component.
func TestParts(t *testing.T) {
	component := func(s string) api.Component { return api.Component{Name: s} }
	slot := func(s string) api.Slot { return api.Slot{Name: s, Init: lit(1)} }
	handler := func(s string) api.Handler { return api.Handler{Name: s} }
	effect := func(string) api.Effect { return api.Effect{Emit: lit(1)} }
	setting := func(s string) api.Setting { return api.Setting{Name: s, E: lit(1)} }
	hook := func(s string) api.Hook { return api.Hook{Event: s, Handler: "x0"} }
	twoLevels := func(n int) []api.Template {
		l := slices.Repeat([]api.Template{view("group")}, 80)
		n -= len(l)
		for i := range l {
			l[i].Kids = slices.Repeat([]api.Template{view("group")}, min(n, 100))
			n -= len(l[i].Kids)
		}
		return l
	}
	alone := func(c api.Component) api.Program {
		c.Name = "main"
		return api.Program{Components: []api.Component{c}}
	}
	for _, x := range []struct {
		what  string
		other int // parts
		make  func(n int) api.Program
	}{
		{"components", 0, func(n int) api.Program { return api.Program{Components: numbered(n, component)} }},
		{"slots", 1, func(n int) api.Program { return alone(api.Component{Slots: numbered(n, slot)}) }},
		{"handlers", 1, func(n int) api.Program { return alone(api.Component{Handlers: numbered(n, handler)}) }},
		{"effects", 1, func(n int) api.Program { return alone(api.Component{Effects: numbered(n, effect)}) }},
		{"templates", 1, func(n int) api.Program { return body(twoLevels(n)...) }},
		{"settings", 2, func(n int) api.Program {
			return body(api.Template{Kind: api.TemplateElement, Name: "group", Settings: numbered(n, setting)})
		}},
		{"settings of a child", 3, func(n int) api.Program {
			return body(view("group", api.Template{Kind: api.TemplateElement, Name: "group", Settings: numbered(n, setting)}))
		}},
		{"hooks", 3, func(n int) api.Program {
			return alone(api.Component{Handlers: numbered(1, handler), Body: []api.Template{{Kind: api.TemplateElement, Name: "group", Hooks: numbered(n, hook)}}})
		}},
		{"slots of many components", 100, func(n int) api.Program {
			l := numbered(100, component)
			for i := range l {
				l[i].Slots = numbered(min(n, 4), slot)
				n -= len(l[i].Slots)
			}
			return api.Program{Components: l}
		}},
	} {
		n := api.MaxParts - x.other
		testValidate(t, "as many "+x.what+" as possible", x.make(n), api.OK)
		testValidate(t, "too many "+x.what, x.make(n+1), api.ErrTooLong)
	}
	all := program(t, `(component main () (state a 1) (on b ()) (effect () 1) (view group (attr c 1) (event d b) (view group)) (call other (attr e 1))) (component other (e))`)
	// There are 11 parts.
	all.Components[1].Slots = numbered(api.MaxParts-11, slot)
	testValidate(t, "all parts", all, api.OK)
	all.Components[1].Effects = numbered(1, effect)
	testValidate(t, "one part too many", all, api.ErrTooLong)
}

// TestLists makes lists that are as long as possible, and too long.
func TestLists(t *testing.T) {
	same := func(s string) string { return s }
	literal := func(string) api.Expr { return lit(1) }
	alone := func(c api.Component) api.Program {
		c.Name = "main"
		return api.Program{Components: []api.Component{c}}
	}
	for _, x := range []struct {
		what string
		make func(n int) api.Program
	}{
		{"parameters", func(n int) api.Program { return alone(api.Component{Params: numbered(n, same)}) }},
		{"parameters of a handler", func(n int) api.Program {
			return alone(api.Component{Handlers: []api.Handler{{Name: "a", Params: numbered(n, same)}}})
		}},
		{"slots to be set", func(n int) api.Program {
			return alone(api.Component{
				Slots:    numbered(n, func(s string) api.Slot { return api.Slot{Name: s, Init: lit(1)} }),
				Handlers: []api.Handler{{Name: "a", Sets: numbered(n, func(s string) api.Assign { return api.Assign{Slot: s, E: lit(1)} })}},
			})
		}},
		{"values that a handler emits", func(n int) api.Program {
			return alone(api.Component{Handlers: []api.Handler{{Name: "a"}, {Name: "b", Emit: numbered(n, literal)}}})
		}},
		{"dependencies", func(n int) api.Program {
			return alone(api.Component{Effects: []api.Effect{{Emit: lit(1)}, {Deps: numbered(n, literal), Emit: lit(1)}}})
		}},
		{"templates of a body", func(n int) api.Program { return body(slices.Repeat([]api.Template{view("group")}, n)...) }},
		{"children", func(n int) api.Program {
			return body(view("group"), view("group", slices.Repeat([]api.Template{view("group")}, n)...))
		}},
		{"children of a condition", func(n int) api.Program {
			return body(api.Template{Kind: api.TemplateIf, E: one(lit(1)), Kids: slices.Repeat([]api.Template{view("group")}, n)})
		}},
		{"arguments", func(n int) api.Program {
			return alone(api.Component{Handlers: []api.Handler{{Name: "a"}}, Body: []api.Template{{Kind: api.TemplateElement, Name: "group", Hooks: []api.Hook{{Event: "a", Handler: "a"}, {Event: "b", Handler: "a", Args: numbered(n, literal)}}}}})
		}},
	} {
		testValidate(t, "as many "+x.what+" as possible", x.make(api.MaxKids), api.OK)
		testValidate(t, "too many "+x.what, x.make(api.MaxKids+1), api.ErrTooLong)
		other := x.make(api.MaxKids + 1)
		other.Components = append([]api.Component{{Name: "9"}}, other.Components...)
		testValidate(t, "too many "+x.what+" behind a wrong name", other, api.ErrTooLong)
	}
	// The operands of an expression are no list of the program.
	testValidate(t, "too many operands", program(t, "(component main () (view group (attr a (list"+strings.Repeat(" 1", api.MaxKids)+"))))"), api.OK)
	testValidate(t, "too many operands", body(api.Template{Kind: api.TemplateIf, E: one(op(api.OpList, slices.Repeat(one(lit(1)), api.MaxKids+1)...))}), api.ErrKind)
	testValidate(t, "too many keys", body(api.Template{Kind: api.TemplateElement, Name: "group", Key: slices.Repeat(one(lit(1)), api.MaxKids+1)}), api.ErrKind)
}

// TestPrograms examines programs that can be written as a text.
func TestPrograms(t *testing.T) {
	for _, x := range []struct {
		text string
		want api.Errno
	}{
		{`(component main ())`, api.OK},
		{`(component main (a b) (state c a) (state d (+ a b)) (on go (e f) (set d e) (set c (+ a d)) (emit f) (emit c)) (effect (a c) d) (effect () 1) (view group (key a) (attr x c) (attr y d) (event go go a c) (event stop go) (when a (each e c (concat d e) (view label (attr x e)) (call main (key e) (attr b e) (attr a 1))))))`, api.OK},
		{`(component main () (call other)) (component other () (call main) (call other))`, api.OK},
		// Components.
		{`(component main ()) (component main ())`, api.ErrDuplicate},
		{`(component main () (call none)) (component other ()) (component main ())`, api.ErrDuplicate},
		{`(component main (a a)) (component other () (call none))`, api.ErrDuplicate},
		{`(component main () (call none)) (component other (a a))`, api.ErrMissing},
		// Parameters, slots and handlers.
		{`(component main (a b a))`, api.ErrDuplicate},
		{`(component main (a) (state a 1))`, api.ErrDuplicate},
		{`(component main (a) (state b 1) (state b 1))`, api.ErrDuplicate},
		{`(component main (a) (on b ()) (on b ()))`, api.ErrDuplicate},
		{`(component main (a) (state b 1) (on a ()) (on b ()) (on main ()))`, api.OK},
		{`(component main () (state a none) (state a 1))`, api.ErrDuplicate},
		{`(component main () (state a none) (on b ()) (on b ()))`, api.ErrDuplicate},
		// Slots.
		{`(component main () (state a 1) (state b a))`, api.ErrName},
		{`(component main () (state a a))`, api.ErrName},
		{`(component main () (state a (list 1 (+ 1 none))))`, api.ErrName},
		{`(component main (b) (state a b))`, api.OK},
		{`(component main () (state a none) (on b () (set none 1)))`, api.ErrName},
		// Handlers.
		{`(component main () (on a (b b)))`, api.ErrDuplicate},
		{`(component main (b) (on a (b)))`, api.ErrDuplicate},
		{`(component main () (state b 1) (on a (c b)))`, api.ErrDuplicate},
		{`(component main () (on a (a main b)) (on b (a b) (emit a)))`, api.OK},
		{`(component main () (on a (c)) (on b () (emit c)))`, api.ErrName},
		{`(component main () (on a () (emit 1) (emit b)))`, api.ErrName},
		{`(component main (b) (on a () (set b 1)))`, api.ErrMissing},
		{`(component main () (on a (b) (set b 1)))`, api.ErrMissing},
		{`(component main () (state b 1) (on a () (set b 1) (set b 2)))`, api.ErrDuplicate},
		{`(component main () (state b 1) (on a () (set b none) (set b 2)))`, api.ErrName},
		{`(component main () (state b 1) (on a () (set b 1) (set b none)))`, api.ErrDuplicate},
		{`(component main () (state b 1) (on a () (set none none)))`, api.ErrMissing},
		{`(component main () (state b 1) (on a () (set b 1)) (on c () (set b 1)))`, api.OK},
		{`(component main () (state b 1) (on a (b) (set none 1)))`, api.ErrDuplicate},
		{`(component main () (state b 1) (on a () (set none 1) (emit none)))`, api.ErrMissing},
		{`(component main () (state b 1) (on a () (set b 1) (emit none)) (on c () (set none 1)))`, api.ErrName},
		{`(component main () (on a (b) (emit c)) (effect (b) 1) (call none))`, api.ErrName},
		// Effects.
		{`(component main () (effect (1 none) 1))`, api.ErrName},
		{`(component main () (effect () none))`, api.ErrName},
		{`(component main () (on a (b)) (effect () b))`, api.ErrName},
		{`(component main () (effect () none) (call none))`, api.ErrName},
		{`(component main (a) (state b 1) (effect (a b) (+ a b)))`, api.OK},
		// Templates.
		{`(component main () (when none (call none)))`, api.ErrName},
		{`(component main () (when 1 (call none)))`, api.ErrMissing},
		{`(component main () (when 1) (when none))`, api.ErrName},
		{`(component main () (call none (key b) (attr c d)))`, api.ErrMissing},
		{`(component main () (state a 1) (on h ()) (call a))`, api.ErrMissing},
		{`(component main () (state a 1) (on h ()) (call h))`, api.ErrMissing},
		{`(component main () (view group (key none)))`, api.ErrName},
		{`(component main () (view group (key none) (event a b)))`, api.ErrName},
		{`(component main () (on h (b)) (view group (attr a b)))`, api.ErrName},
		{`(component main () (view group (attr a 1) (attr a 2)))`, api.ErrDuplicate},
		{`(component main () (view group (attr a none) (attr a 2)))`, api.ErrName},
		{`(component main () (view group (attr a 1) (attr a none)))`, api.ErrDuplicate},
		{`(component main () (view group (attr a 1) (attr b none) (event a b)))`, api.ErrName},
		{`(component main () (on h ()) (view group (event a h) (event a h)))`, api.ErrDuplicate},
		{`(component main () (on h ()) (view group (event a h none) (event a h)))`, api.ErrName},
		{`(component main () (on h ()) (view group (event a h) (event a none)))`, api.ErrDuplicate},
		{`(component main () (on h ()) (view group (event a h) (event b none none)))`, api.ErrMissing},
		{`(component main () (view group (event a none) (call none)))`, api.ErrMissing},
		{`(component main () (on h ()) (view group (event a h none) (call none)))`, api.ErrName},
		{`(component main () (view group (event a h))) (component other () (on h ()))`, api.ErrMissing},
		{`(component main () (on h (b)) (view group (event a h) (view group (event a h 1 2))))`, api.OK},
		{`(component main () (view group (attr a 1)) (view group (attr a 1) (view group (attr a 1))))`, api.OK},
		// Iterations.
		{`(component main (a) (each a 1 2))`, api.ErrDuplicate},
		{`(component main () (state a 1) (each a 1 2))`, api.ErrDuplicate},
		{`(component main () (each a 1 2 (when 1 (view group (each a 1 2)))))`, api.ErrDuplicate},
		{`(component main () (each a 1 2) (each a 1 2 (view group)))`, api.OK},
		{`(component main () (on h (a)) (each a 1 2) (each h 1 2) (each main 1 2))`, api.OK},
		{`(component main () (each a a 2))`, api.ErrName},
		{`(component main () (each a 1 b))`, api.ErrName},
		{`(component main () (each a 1 a (when a (view group (key a) (attr b a)))))`, api.OK},
		{`(component main () (on h ()) (each a 1 a (view group (event b h a) (each b a (concat a b) (call main (key b))))))`, api.OK},
		{`(component main () (each a 1 2) (when a))`, api.ErrName},
		{`(component main () (each a 1 2 (each b a 2)) (each b 1 2 (when a)))`, api.ErrName},
		{`(component main (a) (each a none 2))`, api.ErrDuplicate},
		{`(component main () (each a 1 2 (call none)))`, api.ErrMissing},
		{`(component main () (each a 1 none (call none)))`, api.ErrName},
		// Calls.
		{`(component main () (call main (attr a 1)))`, api.ErrName},
		{`(component main () (call other (attr b 1))) (component other (a))`, api.ErrName},
		{`(component main () (call other (attr a 1) (attr a 1))) (component other (a))`, api.ErrDuplicate},
		{`(component main () (call other (attr a 1) (attr a 1))) (component other (a b))`, api.ErrDuplicate},
		{`(component main () (call other (attr a none) (attr b 1))) (component other (a))`, api.ErrName},
		{`(component main () (call other)) (component other (a))`, api.ErrMissing},
		{`(component main () (call other (attr b 1))) (component other (a b c))`, api.ErrMissing},
		{`(component main () (call other (attr b none))) (component other (a b c))`, api.ErrName},
		{`(component main () (call other (key none))) (component other (a b c))`, api.ErrName},
		{`(component main () (call other (attr b 1) (attr c 1) (attr a 1))) (component other (a b c))`, api.OK},
		{`(component main (x) (call other (attr a x))) (component other (a) (when x))`, api.ErrName},
		{`(component main () (call other (attr b 1)) (call none)) (component other (a b))`, api.ErrMissing},
		{`(component main (a a) (call other (attr a 1))) (component other (a a))`, api.ErrDuplicate},
		{`(component main () (call other (attr a 1))) (component other (a a))`, api.ErrMissing},
	} {
		testValidate(t, x.text, program(t, x.text), x.want)
	}
}

// TestNames puts texts that are no names in all places of names.
func TestNames(t *testing.T) {
	const text = `(component main (a) (state b 1) (on c (d) (set b d)) (view group (attr e 1) (event f c)) (each g 1 g) (call other (attr h 1))) (component other (h))`
	for _, wrong := range []string{"", "9", "-a", "a b", "\u00E9", strings.Repeat("a", api.MaxName+1)} {
		for what, change := range map[string]func(c *api.Component){
			"component":              func(c *api.Component) { c.Name = wrong },
			"parameter":              func(c *api.Component) { c.Params[0] = wrong },
			"slot":                   func(c *api.Component) { c.Slots[0].Name = wrong },
			"handler":                func(c *api.Component) { c.Handlers[0].Name = wrong },
			"parameter of a handler": func(c *api.Component) { c.Handlers[0].Params[0] = wrong },
			"attribute":              func(c *api.Component) { c.Body[0].Settings[0].Name = wrong },
			"event":                  func(c *api.Component) { c.Body[0].Hooks[0].Event = wrong },
			"variable":               func(c *api.Component) { c.Body[1].Var = wrong },
			"parameter of a call":    func(c *api.Component) { c.Body[2].Settings[0].Name = wrong },
			"variable of an expression": func(c *api.Component) {
				c.Params[0] = "z"
				c.Body[0].Settings[0].E = name(wrong)
			},
		} {
			p := program(t, text)
			change(&p.Components[0])
			testValidate(t, what+" "+wrong, p, api.ErrName)
		}
		for what, change := range map[string]func(c *api.Component){
			"slot that is set":         func(c *api.Component) { c.Handlers[0].Sets[0].Slot = wrong },
			"handler of an event":      func(c *api.Component) { c.Body[0].Hooks[0].Handler = wrong },
			"component that is called": func(c *api.Component) { c.Body[2].Name = wrong },
		} {
			p := program(t, text)
			change(&p.Components[0])
			testValidate(t, what+" "+wrong, p, api.ErrMissing)
		}
	}
	p := program(t, text)
	p.Components[1].Params[0] = "9"
	p.Components[0].Body[2].Settings[0].Name = "9"
	testValidate(t, "a call with a parameter that is no name", p, api.ErrName)
	p = program(t, text)
	p.Components[0].Params = append(p.Components[0].Params, "a")
	p.Components[0].Slots[0].Name = "9"
	testValidate(t, "two parameters with a name, before a slot", p, api.ErrDuplicate)
	p = program(t, `(component main ()) (component main ()) (component main ())`)
	p.Components[1].Name = "9"
	testValidate(t, "a wrong name, before one that occurs twice", p, api.ErrName)
	p.Components[1].Name, p.Components[2].Name = "main", "9"
	testValidate(t, "a name that occurs twice, before a wrong one", p, api.ErrDuplicate)
	p = program(t, `(component main () (on a ()) (view group (event x a) (event y a)))`)
	p.Components[0].Body[0].Hooks[1].Event, p.Components[0].Body[0].Hooks[1].Handler = "9", "none"
	testValidate(t, "a wrong event without a handler", p, api.ErrName)
	p = program(t, `(component main (a) (on b (c)))`)
	p.Components[0].Handlers[0].Params = []string{"9", "a"}
	testValidate(t, "a wrong parameter of a handler, before one that is in scope", p, api.ErrName)
}

// TestExpressions puts expressions that are not valid in all places of expressions.
func TestExpressions(t *testing.T) {
	const text = `(component main () (state b 1) (on c () (set b 1) (emit 1)) (effect (1) 1) (view group (key 1) (attr e 1) (event f c 1)) (when 1) (each g 1 1) (call main (key 1)))`
	wrong := []struct {
		e    api.Expr
		want api.Errno
	}{
		{api.Expr{}, api.ErrKind}, {lit(api.MaxNumber + 1), api.ErrRange}, {quoted("\xFF"), api.ErrSyntax}, {quoted(strings.Repeat("a", api.MaxString+1)), api.ErrTooLong}, {name("none"), api.ErrName},
		{op(api.OpList, name("none"), op(api.OpAdd, name("none"), api.Expr{})), api.ErrKind}, {op(api.OpList, lit(1), op(api.OpNot, name("none"))), api.ErrName},
	}
	deep := lit(1)
	for range api.MaxDepth {
		deep = op(api.OpNot, deep)
	}
	wrong = append(wrong, struct {
		e    api.Expr
		want api.Errno
	}{deep, api.ErrDepth})
	n := len(expressionsOf(program(t, text)))
	if n != 12 {
		t.Fatalf("%d expressions", n)
	}
	for _, x := range wrong {
		for i := range n {
			p := program(t, text)
			*expressionsOf(p)[i] = x.e
			testValidate(t, "a wrong expression", p, x.want)
			// What comes later does not matter.
			for j := i + 1; j < n; j++ {
				q := program(t, text)
				*expressionsOf(q)[i], *expressionsOf(q)[j] = x.e, op(api.OpInt, api.Expr{})
				testValidate(t, "two wrong expressions", q, x.want)
			}
		}
	}
}

// expressionsOf returns the outermost expressions of p in the order in which they are examined.
func expressionsOf(p api.Program) []*api.Expr {
	var l []*api.Expr
	add := func(all []api.Expr) {
		for i := range all {
			l = append(l, &all[i])
		}
	}
	for _, c := range p.Components {
		for i := range c.Slots {
			l = append(l, &c.Slots[i].Init)
		}
		for _, h := range c.Handlers {
			for i := range h.Sets {
				l = append(l, &h.Sets[i].E)
			}
			add(h.Emit)
		}
		for i := range c.Effects {
			add(c.Effects[i].Deps)
			l = append(l, &c.Effects[i].Emit)
		}
		for _, t := range templatesOf(c.Body) {
			add(t.E)
			add(t.Key)
			for i := range t.Settings {
				l = append(l, &t.Settings[i].E)
			}
			for _, h := range t.Hooks {
				add(h.Args)
			}
		}
	}
	return l
}

// templatesOf returns templates and what is in them, in the order in which they are examined.
func templatesOf(l []api.Template) []*api.Template {
	var all []*api.Template
	for i := range l {
		all = append(append(all, &l[i]), templatesOf(l[i].Kids)...)
	}
	return all
}

// TestTemplateKinds fills the fields of templates of all kinds.
func TestTemplateKinds(t *testing.T) {
	template := func(kind int) api.Template {
		switch kind {
		case api.TemplateElement:
			return api.Template{Kind: kind, Name: "slider"}
		case api.TemplateIf:
			return api.Template{Kind: kind, E: one(lit(1))}
		case api.TemplateEach:
			return api.Template{Kind: kind, Var: "v", E: one(lit(1)), Key: one(lit(1))}
		case api.TemplateCall:
			return api.Template{Kind: kind, Name: "main"}
		}
		return api.Template{Kind: kind}
	}
	const bad = api.ErrKind
	for _, x := range []struct {
		what   string
		change func(t *api.Template)
		want   [4]api.Errno
	}{
		{"nothing", func(t *api.Template) {}, [4]api.Errno{}},
		{"no name", func(t *api.Template) { t.Name = "" }, [4]api.Errno{bad, api.OK, api.OK, api.ErrMissing}},
		{"a name", func(t *api.Template) { t.Name = "main" }, [4]api.Errno{bad, bad, bad, api.OK}},
		{"the name of a view", func(t *api.Template) { t.Name = "group" }, [4]api.Errno{api.OK, bad, bad, api.ErrMissing}},
		{"a wrong name", func(t *api.Template) { t.Name = "Group" }, [4]api.Errno{bad, bad, bad, api.ErrMissing}},
		{"a variable", func(t *api.Template) { t.Var = "x" }, [4]api.Errno{bad, bad, api.OK, bad}},
		{"no variable", func(t *api.Template) { t.Var = "" }, [4]api.Errno{api.OK, api.OK, api.ErrName, api.OK}},
		{"no key", func(t *api.Template) { t.Key = []api.Expr{} }, [4]api.Errno{api.OK, api.OK, bad, api.OK}},
		{"a key", func(t *api.Template) { t.Key = one(lit(1)) }, [4]api.Errno{api.OK, bad, api.OK, api.OK}},
		{"two keys", func(t *api.Template) { t.Key = []api.Expr{lit(1), lit(1)} }, [4]api.Errno{bad, bad, bad, bad}},
		{"no expression", func(t *api.Template) { t.E = []api.Expr{} }, [4]api.Errno{api.OK, bad, bad, api.OK}},
		{"an expression", func(t *api.Template) { t.E = one(lit(1)) }, [4]api.Errno{bad, api.OK, api.OK, bad}},
		{"two expressions", func(t *api.Template) { t.E = []api.Expr{lit(1), lit(1)} }, [4]api.Errno{bad, bad, bad, bad}},
		{"a setting", func(t *api.Template) { t.Settings = []api.Setting{{Name: "x", E: lit(1)}} }, [4]api.Errno{api.OK, bad, bad, api.ErrName}},
		{"empty settings", func(t *api.Template) { t.Settings = []api.Setting{} }, [4]api.Errno{}},
		{"a hook", func(t *api.Template) { t.Hooks = []api.Hook{{Event: "x", Handler: "go"}} }, [4]api.Errno{api.OK, bad, bad, bad}},
		{"empty hooks", func(t *api.Template) { t.Hooks = []api.Hook{} }, [4]api.Errno{}},
		{"a child", func(t *api.Template) { t.Kids = []api.Template{view("group")} }, [4]api.Errno{api.OK, api.OK, api.OK, bad}},
		{"empty children", func(t *api.Template) { t.Kids = []api.Template{} }, [4]api.Errno{}},
		{"another kind", func(t *api.Template) { t.Kind = 5 }, [4]api.Errno{bad, bad, bad, bad}},
		{"no kind", func(t *api.Template) { t.Kind = 0 }, [4]api.Errno{bad, bad, bad, bad}},
		{"a negative kind", func(t *api.Template) { t.Kind = -1 }, [4]api.Errno{bad, bad, bad, bad}},
	} {
		for i, want := range x.want {
			k := template(i + 1)
			x.change(&k)
			p := body(view("group", k))
			p.Components[0].Handlers = []api.Handler{{Name: "go"}}
			testValidate(t, "a template of the kind "+showValue(num(i+1))+" with "+x.what, p, want)
			if want == api.OK {
				want = bad
			}
			p.Components[0].Body = []api.Template{k, {}}
			testValidate(t, x.what+", before a wrong template", p, want)
		}
	}
	for i, s := range strings.Fields("group label button field image check link scroll heading list item dialog slider") {
		v, _, _, e := Render(body(view(s)), api.Running{}, nil)
		if e != api.OK || v.Kind != i+1 {
			t.Errorf("P13.2: the view %s has the kind %d, %d", s, v.Kind, e)
		}
	}
	for _, s := range []string{"", "groups", "main", "Label", "window", "text"} {
		testValidate(t, "the view "+s, body(view(s)), bad)
	}
	wrong := api.Template{Kind: api.TemplateCall, Name: "none", Var: "9", Settings: []api.Setting{{Name: "9"}}}
	testValidate(t, "a template with many errors", body(wrong), bad)
	wrong.Var = ""
	testValidate(t, "a call with many errors", body(wrong), api.ErrMissing)
}

// TestDepthOfTemplates nests templates.
func TestDepthOfTemplates(t *testing.T) {
	wrap := []func(k api.Template) api.Template{
		func(k api.Template) api.Template { return view("group", k) },
		func(k api.Template) api.Template {
			return api.Template{Kind: api.TemplateIf, E: one(lit(1)), Kids: []api.Template{k}}
		},
	}
	for _, k := range []api.Template{view("group"), {Kind: api.TemplateCall, Name: "main"}, {Kind: api.TemplateEach, Var: "v", E: one(lit(1)), Key: one(lit(1))}} {
		for i := 1; i < api.MaxDepth; i++ {
			k = wrap[i%2](k)
		}
		testValidate(t, "templates that are nested as deeply as possible", body(view("group"), k), api.OK)
		testValidate(t, "templates that are nested too deeply", body(wrap[0](k)), api.ErrDepth)
		testValidate(t, "templates that are nested too deeply", body(wrap[1](k), api.Template{}), api.ErrDepth)
		testValidate(t, "templates that are nested too deeply, behind a wrong one", body(api.Template{}, wrap[1](k)), api.ErrKind)
	}
	k := api.Template{}
	for range api.MaxDepth - 1 {
		k = wrap[0](k)
	}
	testValidate(t, "a wrong template", body(k), api.ErrKind)
	testValidate(t, "a wrong template that is nested too deeply", body(wrap[0](k)), api.ErrDepth)
	deep := wrap[0](k)
	deep.Settings = []api.Setting{{Name: "a", E: name("none")}}
	testValidate(t, "a wrong attribute before a template that is nested too deeply", body(deep), api.ErrName)
}

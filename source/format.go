package source

import (
	"strconv"
	"strings"

	"widgetry/api"
	"widgetry/expr"
)

func (w *writer) program(p api.Program) {
	w.require(len(p.Components) > 0)
	each(w, p.Components, 0, w.component)
}

func (w *writer) component(c api.Component) {
	w.open("component")
	w.name(c.Name)
	w.names(c.Params)
	each(w, c.Slots, 0, func(s api.Slot) { w.binding("state", s.Name, s.Init) })
	each(w, c.Handlers, 0, w.handler)
	each(w, c.Effects, 0, w.effect)
	w.templates(c.Body, 1)
	w.put(")")
	w.put("\n")
}

func (w *writer) handler(h api.Handler) {
	w.open("on")
	w.name(h.Name)
	w.names(h.Params)
	each(w, h.Sets, 0, func(a api.Assign) { w.binding("set", a.Slot, a.E) })
	each(w, h.Emit, 1, func(e api.Expr) { w.single("emit", e) })
	w.put(")")
}

func (w *writer) effect(f api.Effect) {
	w.open("effect")
	w.put("(")
	w.expressions(f.Deps, 1)
	w.put(")")
	w.expression(f.Emit, 1)
	w.put(")")
}

// templates writes templates that are nested that deep.
func (w *writer) templates(l []api.Template, depth int) {
	each(w, l, depth, func(t api.Template) { w.template(t, depth) })
}

func (w *writer) template(t api.Template, depth int) {
	w.require(depth <= api.MaxDepth && isFormed(t))
	if w.wrong {
		return
	}
	w.open(templateWords[t.Kind-api.TemplateElement])
	switch t.Kind {
	case api.TemplateElement:
		w.put(t.Name)
		w.attributes(t)
	case api.TemplateIf:
		w.expressions(t.E, 1)
	case api.TemplateEach:
		w.name(t.Var)
		w.expressions(t.E, 1)
		w.expressions(t.Key, 1)
	case api.TemplateCall:
		w.name(t.Name)
		w.attributes(t)
	}
	w.templates(t.Kids, depth+1)
	w.put(")")
}

// isFormed reports whether t has as many parts as the templates of its kind, and no others.
func isFormed(t api.Template) bool {
	none := len(t.Settings) == 0 && len(t.Hooks) == 0
	switch t.Kind {
	case api.TemplateElement:
		return isViewWord(t.Name) && t.Var == "" && len(t.Key) <= 1 && len(t.E) == 0
	case api.TemplateIf:
		return none && t.Name == "" && t.Var == "" && len(t.Key) == 0 && len(t.E) == 1
	case api.TemplateEach:
		return none && t.Name == "" && len(t.Key) == 1 && len(t.E) == 1
	case api.TemplateCall:
		return t.Var == "" && len(t.Key) <= 1 && len(t.E) == 0 && len(t.Hooks) == 0 && len(t.Kids) == 0
	}
	return false
}

// attributes writes what follows the name of a template.
func (w *writer) attributes(t api.Template) {
	each(w, t.Key, 1, func(e api.Expr) { w.single("key", e) })
	each(w, t.Settings, 0, func(s api.Setting) { w.binding("attr", s.Name, s.E) })
	each(w, t.Hooks, 0, w.hook)
}

func (w *writer) hook(h api.Hook) {
	w.open("event")
	w.name(h.Event)
	w.name(h.Handler)
	w.expressions(h.Args, 1)
	w.put(")")
}

// binding writes a part that consists of a name and an expression.
func (w *writer) binding(word, name string, e api.Expr) {
	w.open(word)
	w.name(name)
	w.expression(e, 1)
	w.put(")")
}

// single writes a part that consists of an expression.
func (w *writer) single(word string, e api.Expr) {
	w.open(word)
	w.expression(e, 1)
	w.put(")")
}

// names writes a list of names in parentheses.
func (w *writer) names(l []string) {
	w.put("(")
	each(w, l, 0, w.name)
	w.put(")")
}

func (w *writer) name(s string) {
	w.require(expr.Name(s))
	w.put(s)
}

// expressions writes expressions that are nested that deep.
func (w *writer) expressions(l []api.Expr, depth int) {
	each(w, l, depth, func(e api.Expr) { w.expression(e, depth) })
}

func (w *writer) expression(e api.Expr, depth int) {
	w.require(depth <= api.MaxDepth)
	word, ok := operatorWord(e.Op)
	if !ok {
		word, ok = atomWord(e)
		w.require(ok)
		w.put(word)
		return
	}
	least, most := operands(e.Op)
	w.require(e.N == 0 && e.S == "" && len(e.Args) >= least && len(e.Args) <= most)
	w.open(word)
	w.expressions(e.Args, depth+1)
	w.put(")")
}

// atomWord returns the token of an expression without an operator, and whether there is one.
func atomWord(e api.Expr) (string, bool) {
	if expr.Validate(e) != api.OK {
		return "", false
	}
	switch e.Op {
	case api.OpInt:
		return strconv.Itoa(e.N), true
	case api.OpBool:
		return strconv.FormatBool(e.N == 1), true
	case api.OpText:
		return quote(e.S), !strings.ContainsFunc(e.S, isControl)
	}
	return e.S, e.S != "true" && e.S != "false"
}

// quote returns the token of a string.
func quote(s string) string {
	return `"` + strings.NewReplacer(`\`, `\\`, `"`, `\"`, "\n", `\n`).Replace(s) + `"`
}

// isControl reports whether no string can contain r.
func isControl(r rune) bool {
	return r < ' ' && r != '\n'
}

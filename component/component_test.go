package component

import (
	"reflect"
	"slices"
	"strconv"
	"strings"
	"testing"

	"widgetry/api"
	"widgetry/source"
)

// program returns the program of a text.
func program(t *testing.T, text string) api.Program {
	t.Helper()
	p, at, e := source.Parse(text)
	if e != api.OK {
		t.Fatalf("no program: %d at %q", e, text[at:])
	}
	return p
}

// Values.
func num(n int) api.Value          { return api.Value{Kind: api.ValueInt, N: n} }
func flag(n int) api.Value         { return api.Value{Kind: api.ValueBool, N: n} }
func str(s string) api.Value       { return api.Value{Kind: api.ValueText, S: s} }
func seq(l ...api.Value) api.Value { return api.Value{Kind: api.ValueList, L: l} }

func texts(l ...string) api.Value {
	v := seq()
	for _, s := range l {
		v.L = append(v.L, str(s))
	}
	return v
}

// Expressions.
func lit(n int) api.Expr               { return api.Expr{Op: api.OpInt, N: n} }
func quoted(s string) api.Expr         { return api.Expr{Op: api.OpText, S: s} }
func name(s string) api.Expr           { return api.Expr{Op: api.OpVar, S: s} }
func op(o int, l ...api.Expr) api.Expr { return api.Expr{Op: o, Args: l} }
func one(e api.Expr) []api.Expr        { return []api.Expr{e} }
func body(l ...api.Template) api.Program {
	return api.Program{Components: []api.Component{{Name: "main", Body: l}}}
}

// view returns the template of a view.
func view(kind string, kids ...api.Template) api.Template {
	return api.Template{Kind: api.TemplateElement, Name: kind, Kids: kids}
}

// numbered returns n elements that are made of different names.
func numbered[T any](n int, make func(name string) T) []T {
	var l []T
	for i := range n {
		l = append(l, make("x"+strconv.Itoa(i)))
	}
	return l
}

// Results as texts. A text is in quotation marks.

func showValue(v api.Value) string {
	switch v.Kind {
	case api.ValueInt:
		return strconv.Itoa(v.N)
	case api.ValueBool:
		return strconv.FormatBool(v.N == 1)
	case api.ValueText:
		return strconv.Quote(v.S)
	}
	return "(" + showValues(v.L) + ")"
}

func showValues(l []api.Value) string {
	var all []string
	for _, v := range l {
		all = append(all, showValue(v))
	}
	return strings.Join(all, " ")
}

// showView returns the kind, #key, {attributes}, <actions> and [children] of a view.
func showView(v api.View) string {
	s := strconv.Itoa(v.Kind)
	if v.Kind > 0 && v.Kind <= api.MostKind {
		s = strings.Fields("group label button field image check link scroll heading list item dialog slider")[v.Kind-1]
	}
	if v.Key != "" {
		s += "#" + v.Key
	}
	for i, a := range v.Attrs {
		s += []string{"{", " "}[min(i, 1)] + a.Name + "=" + showValue(a.Value)
	}
	s += strings.Repeat("}", min(1, len(v.Attrs)))
	for _, a := range v.Actions {
		s += "<" + strings.TrimSpace(a.Event+" "+a.Instance+":"+a.Handler+" "+showValues(a.Args)) + ">"
	}
	for i, k := range v.Kids {
		s += []string{"[", " "}[min(i, 1)] + showView(k)
	}
	return s + strings.Repeat("]", min(1, len(v.Kids)))
}

// showRunning returns the path, the name, (the arguments | the values | what the effects have seen) of each instance.
func showRunning(r api.Running) string {
	var all []string
	for _, i := range r.Instances {
		var seen []string
		for _, l := range i.Seen {
			seen = append(seen, "["+showValues(l)+"]")
		}
		all = append(all, i.Path+" "+i.Name+"("+showValues(i.Args)+"|"+showValues(i.Values)+"|"+strings.Join(seen, "")+")")
	}
	return strings.Join(all, "\n")
}

// shown is a result of Render as texts.
type shown struct{ view, running, emitted string }

func render(p api.Program, r api.Running, args ...api.Value) (shown, api.Running, api.Errno) {
	v, next, emitted, e := Render(p, r, args)
	return shown{showView(v), showRunning(next), showValues(emitted)}, next, e
}

// mustRender renders what has no error.
func mustRender(t *testing.T, p api.Program, r api.Running, args ...api.Value) (shown, api.Running) {
	t.Helper()
	s, next, e := render(p, r, args...)
	if e != api.OK {
		t.Fatalf("Render: %d", e)
	}
	return s, next
}

// testRender renders a program for the first time.
func testRender(t *testing.T, text, want string, args ...api.Value) {
	t.Helper()
	s, _, e := render(program(t, text), api.Running{}, args...)
	if e != api.OK || s.view != want {
		t.Errorf("Render(%s, %s) = %s, %d, want %s", text, showValues(args), s.view, e, want)
	}
}

// testRefused renders what has an error.
func testRefused(t *testing.T, p api.Program, r api.Running, want api.Errno, args ...api.Value) {
	t.Helper()
	v, next, emitted, e := Render(p, r, args)
	if e != want || !reflect.DeepEqual(v, api.View{}) || len(next.Instances) != 0 || len(emitted) != 0 {
		t.Errorf("Render = %s, %s, %s, %d, want %d", showView(v), showRunning(next), showValues(emitted), e, want)
	}
}

// mustHandle handles what has no error.
func mustHandle(t *testing.T, p api.Program, r api.Running, a api.Action, args ...api.Value) (api.Running, string) {
	t.Helper()
	next, emitted, e := Handle(p, r, a, args)
	if e != api.OK {
		t.Fatalf("Handle(%v): %d", a, e)
	}
	return next, showValues(emitted)
}

// testNotHandled handles what has an error.
func testNotHandled(t *testing.T, p api.Program, r api.Running, a api.Action, want api.Errno, args ...api.Value) {
	t.Helper()
	next, emitted, e := Handle(p, r, a, args)
	if e != want || len(next.Instances) != 0 || len(emitted) != 0 {
		t.Errorf("Handle(%v, %s) = %s, %s, %d, want %d", a, showValues(args), showRunning(next), showValues(emitted), e, want)
	}
}

// actionsOf returns the actions of a view and of the views in it.
func actionsOf(v api.View) []api.Action {
	l := slices.Clone(v.Actions)
	for _, k := range v.Kids {
		l = append(l, actionsOf(k)...)
	}
	return l
}

// TestCounter is the example of the document.
func TestCounter(t *testing.T) {
	p := program(t, `(component main () (state n 0) (on go () (set n (+ n 1))) (view button (event press go) (view label (attr text (show n)))))`)
	v, r, emitted, e := Render(p, api.Running{}, nil)
	if got := showView(v); got != `button<press /:go>[label{text="0"}]` || e != api.OK || len(emitted) != 0 {
		t.Fatalf("P13.2: Render = %s, %s, %d", got, showValues(emitted), e)
	}
	for i := range 3 {
		if want := "/ main(|" + strconv.Itoa(i) + "|)"; showRunning(r) != want {
			t.Errorf("P13.5: the instances %s, want %s", showRunning(r), want)
		}
		s, next := mustRender(t, p, r)
		if want := `button<press /:go>[label{text="` + strconv.Itoa(i) + `"}]`; s.view != want {
			t.Errorf("P13.2: Render = %s, want %s", s.view, want)
		}
		r, _ = mustHandle(t, p, next, actionsOf(v)[0])
	}
}

package component

import (
	"fmt"
	"maps"
	"slices"
	"sort"
	"strings"
	"unicode"

	"widgetry/api"
	"widgetry/expr"
)

// The functions of this file that end in Read follow the sentences of chapter 13 one by one. An error ends them by panic.

// when ends a reading with an error if a condition applies.
func when(applies bool, e api.Errno) {
	if applies {
		panic(e)
	}
}

// errorOf returns the error with which a reading ends.
func errorOf(reading func()) (e api.Errno) {
	defer func() {
		if r := recover(); r != nil {
			e = r.(api.Errno)
		}
	}()
	reading()
	return api.OK
}

func duplicate[T any](l []T, i int, name func(T) string) bool {
	return slices.ContainsFunc(l[:i], func(x T) bool { return name(x) == name(l[i]) })
}

func validateRead(p api.Program) {
	when(len(p.Components) == 0, api.ErrMissing)
	parts, longest := len(p.Components), 0
	list := func(n int) { longest = max(longest, n) }
	for _, c := range p.Components {
		parts += len(c.Slots) + len(c.Handlers) + len(c.Effects)
		list(len(c.Params))
		list(len(c.Body))
		for _, h := range c.Handlers {
			list(len(h.Params))
			list(len(h.Sets))
			list(len(h.Emit))
		}
		for _, f := range c.Effects {
			list(len(f.Deps))
		}
		for _, t := range templatesOf(c.Body) {
			parts += 1 + len(t.Settings) + len(t.Hooks)
			list(len(t.Kids))
			for _, h := range t.Hooks {
				list(len(h.Args))
			}
		}
	}
	when(parts > 400 || longest > 100, api.ErrTooLong)
	for i, c := range p.Components {
		when(!expr.Name(c.Name), api.ErrName)
		when(duplicate(p.Components, i, func(c api.Component) string { return c.Name }), api.ErrDuplicate)
	}
	for _, c := range p.Components {
		componentRead(p, c)
	}
}

func componentRead(p api.Program, c api.Component) {
	params, slots := map[string]bool{}, map[string]bool{}
	for _, s := range c.Params {
		when(!expr.Name(s), api.ErrName)
		when(params[s], api.ErrDuplicate)
		params[s] = true
	}
	for _, s := range c.Slots {
		when(!expr.Name(s.Name), api.ErrName)
		when(params[s.Name] || slots[s.Name], api.ErrDuplicate)
		slots[s.Name] = true
	}
	for i, h := range c.Handlers {
		when(!expr.Name(h.Name), api.ErrName)
		when(duplicate(c.Handlers, i, func(h api.Handler) string { return h.Name }), api.ErrDuplicate)
	}
	for _, s := range c.Slots {
		expressionRead(s.Init, params)
	}
	scope := maps.Clone(params)
	maps.Copy(scope, slots)
	for _, h := range c.Handlers {
		inner := maps.Clone(scope)
		for _, s := range h.Params {
			when(!expr.Name(s), api.ErrName)
			when(inner[s], api.ErrDuplicate)
			inner[s] = true
		}
		for i, s := range h.Sets {
			when(!slots[s.Slot], api.ErrMissing)
			when(duplicate(h.Sets, i, func(s api.Assign) string { return s.Slot }), api.ErrDuplicate)
			expressionRead(s.E, inner)
		}
		for _, e := range h.Emit {
			expressionRead(e, inner)
		}
	}
	for _, f := range c.Effects {
		for _, e := range f.Deps {
			expressionRead(e, scope)
		}
		expressionRead(f.Emit, scope)
	}
	for _, t := range c.Body {
		templateRead(p, c, t, scope, 1)
	}
}

func expressionRead(e api.Expr, scope map[string]bool) {
	when(expr.Validate(e) != api.OK, expr.Validate(e))
	var visit func(e api.Expr)
	visit = func(e api.Expr) {
		when(e.Op == api.OpVar && !scope[e.S], api.ErrName)
		for _, x := range e.Args {
			visit(x)
		}
	}
	visit(e)
}

func templateRead(p api.Program, c api.Component, t api.Template, scope map[string]bool, depth int) {
	when(depth > 16, api.ErrDepth)
	element, condition, each, call := t.Kind == 1, t.Kind == 2, t.Kind == 3, t.Kind == 4
	when(!element && !condition && !each && !call, api.ErrKind)
	kinds := " group label button field image check link scroll heading list item dialog slider "
	when(element && (t.Name == "" || !strings.Contains(kinds, " "+t.Name+" ")), api.ErrKind)
	when(t.Name != "" && !element && !call || t.Var != "" && !each || len(t.Key) > 0 && condition || len(t.E) > 0 && !condition && !each, api.ErrKind)
	when(len(t.Settings) > 0 && !element && !call || len(t.Hooks) > 0 && !element || len(t.Kids) > 0 && call, api.ErrKind)
	when(len(t.Key) > 1 || len(t.E) > 1 || (condition || each) && len(t.E) == 0 || each && len(t.Key) == 0, api.ErrKind)
	at := slices.IndexFunc(p.Components, func(c api.Component) bool { return c.Name == t.Name })
	when(call && at < 0, api.ErrMissing)
	inner := maps.Clone(scope)
	if each {
		when(!expr.Name(t.Var), api.ErrName)
		when(scope[t.Var], api.ErrDuplicate)
		inner[t.Var] = true
	}
	for _, e := range t.E {
		expressionRead(e, scope)
	}
	for _, e := range t.Key {
		expressionRead(e, inner)
	}
	for i, s := range t.Settings {
		when(!expr.Name(s.Name), api.ErrName)
		when(call && !slices.Contains(p.Components[max(at, 0)].Params, s.Name), api.ErrName)
		when(duplicate(t.Settings, i, func(s api.Setting) string { return s.Name }), api.ErrDuplicate)
		expressionRead(s.E, scope)
	}
	when(call && len(t.Settings) < len(p.Components[max(at, 0)].Params), api.ErrMissing)
	for i, h := range t.Hooks {
		when(!expr.Name(h.Event), api.ErrName)
		when(duplicate(t.Hooks, i, func(h api.Hook) string { return h.Event }), api.ErrDuplicate)
		when(!slices.ContainsFunc(c.Handlers, func(x api.Handler) bool { return x.Name == h.Handler }), api.ErrMissing)
		for _, e := range h.Args {
			expressionRead(e, scope)
		}
	}
	for _, k := range t.Kids {
		templateRead(p, c, k, inner, depth+1)
	}
}

func namedRead(p api.Program, name string) (api.Component, bool) {
	for _, c := range p.Components {
		if c.Name == name {
			return c, true
		}
	}
	return api.Component{}, false
}

func runningRead(p api.Program, r api.Running) {
	for i, x := range r.Instances {
		when(i > 0 && x.Path <= r.Instances[i-1].Path, api.ErrState)
		c, ok := namedRead(p, x.Name)
		when(!ok || len(x.Args) != len(c.Params) || len(x.Values) != len(c.Slots) || len(x.Seen) != len(c.Effects), api.ErrState)
		all := slices.Concat(x.Args, x.Values)
		for i, f := range c.Effects {
			when(len(x.Seen[i]) != len(f.Deps), api.ErrState)
			all = append(all, x.Seen[i]...)
		}
		for _, v := range all {
			when(expr.Check(v) != api.OK, api.ErrState)
		}
	}
}

// level is what is around the present template: an element, an element of an iteration, or an instance.
type level struct {
	kind     int
	key      string
	variable api.Binding
	instance *instanceRead
	views    []api.View // the children of an element
}

type instanceRead struct {
	api.Instance
	component api.Component
	seen      [][]api.Value // of a known instance
	known     bool
	calls     []string // what has been called without a key
}

// reading is a rendering. The first level contains the views of the program.
type reading struct {
	program api.Program
	former  api.Running
	levels  []level
	all     []*instanceRead
	steps   int
	views   int
}

// top returns how many levels there are up to the innermost one that fits.
func (r *reading) top(fits func(l level) bool) int {
	n := len(r.levels)
	for n > 0 && !fits(r.levels[n-1]) {
		n--
	}
	return n
}

func isCall(l level) bool    { return l.kind == api.TemplateCall }
func isElement(l level) bool { return l.kind == api.TemplateElement }

func (r *reading) count(fits func(l level) bool) int {
	n := 0
	for _, l := range r.levels {
		if fits(l) {
			n++
		}
	}
	return n
}

// within visits templates in a further level, and returns it.
func (r *reading) within(l level, templates []api.Template) level {
	r.levels = append(r.levels, l)
	for _, t := range templates {
		r.template(t)
	}
	l = r.levels[len(r.levels)-1]
	r.levels = r.levels[:len(r.levels)-1]
	return l
}

func (x *instanceRead) bindings(withSlots bool) []api.Binding {
	var env []api.Binding
	for i, s := range x.component.Params {
		env = append(env, api.Binding{Name: s, Value: x.Args[i]})
	}
	for i, s := range x.component.Slots {
		if withSlots {
			env = append(env, api.Binding{Name: s.Name, Value: x.Values[i]})
		}
	}
	return env
}

func evalRead(e api.Expr, env []api.Binding) api.Value {
	v, err := expr.Eval(e, env)
	when(err != api.OK, err)
	return v
}

func (r *reading) eval(e api.Expr, more ...api.Binding) api.Value {
	from := r.top(isCall)
	env := r.levels[from-1].instance.bindings(true)
	for _, l := range r.levels[from:] {
		if l.kind == api.TemplateEach {
			env = append(env, l.variable)
		}
	}
	return evalRead(e, append(env, more...))
}

func (r *reading) key(l []api.Expr, more ...api.Binding) string {
	if len(l) == 0 {
		return ""
	}
	v := r.eval(l[0], more...)
	when(v.Kind != api.ValueText, api.ErrType)
	when(len(v.S) < 1 || len(v.S) > 24, api.ErrName)
	for _, c := range v.S {
		when(c > 127 || !unicode.IsLetter(c) && !unicode.IsDigit(c) && c != '-' && c != '_', api.ErrName)
	}
	return v.S
}

func (r *reading) template(t api.Template) {
	r.steps++
	when(r.steps > 4000, api.ErrTooLong)
	switch t.Kind {
	case api.TemplateElement:
		r.element(t)
	case api.TemplateIf:
		v := r.eval(t.E[0])
		when(v.Kind != api.ValueBool, api.ErrType)
		for _, k := range t.Kids {
			if v.N == 1 {
				r.template(k)
			}
		}
	case api.TemplateEach:
		v := r.eval(t.E[0])
		when(v.Kind != api.ValueList, api.ErrType)
		for _, x := range v.L {
			b := api.Binding{Name: t.Var, Value: x}
			r.within(level{kind: api.TemplateEach, key: r.key(t.Key, b), variable: b}, t.Kids)
		}
	case api.TemplateCall:
		r.call(t)
	}
}

func (r *reading) element(t api.Template) {
	v := api.View{Key: r.key(t.Key)}
	for i, s := range strings.Fields("group label button field image check link scroll heading list item dialog slider") {
		if s == t.Name {
			v.Kind = i + 1
		}
	}
	for _, s := range t.Settings {
		v.Attrs = append(v.Attrs, api.Attr{Name: s.Name, Value: r.eval(s.E)})
	}
	for _, h := range t.Hooks {
		a := api.Action{Event: h.Event, Instance: r.levels[r.top(isCall)-1].instance.Path, Handler: h.Handler}
		for _, e := range h.Args {
			a.Args = append(a.Args, r.eval(e))
		}
		v.Actions = append(v.Actions, a)
	}
	// The first level is no view.
	when(r.count(isElement) > 16, api.ErrDepth)
	v.Kids = r.within(level{kind: api.TemplateElement, key: v.Key}, t.Kids).views
	sort.Slice(v.Attrs, func(i, j int) bool { return v.Attrs[i].Name < v.Attrs[j].Name })
	sort.Slice(v.Actions, func(i, j int) bool { return v.Actions[i].Event < v.Actions[j].Event })
	r.views++
	when(r.views > 400 || len(v.Kids) > 100 || len(v.Attrs) > 24 || len(v.Actions) > 24, api.ErrTooLong)
	parent := r.top(isElement) - 1
	for i := len(r.levels) - 1; i > parent && v.Key == ""; i-- {
		v.Key = r.levels[i].key
	}
	siblings := r.levels[parent].views
	for _, s := range siblings {
		when(s.Key == v.Key && s.Key != "", api.ErrDuplicate)
	}
	r.levels[parent].views = append(siblings, v)
}

func (r *reading) call(t api.Template) {
	c, _ := namedRead(r.program, t.Name)
	key := r.key(t.Key)
	values := map[string]api.Value{}
	for _, s := range t.Settings {
		values[s.Name] = r.eval(s.E)
	}
	var args []api.Value
	for _, s := range c.Params {
		args = append(args, values[s])
	}
	when(r.count(isCall) == 16, api.ErrDepth)
	from := r.top(isCall)
	caller := r.levels[from-1].instance
	path := caller.Path
	for _, l := range r.levels[from:] {
		if l.key != "" {
			path += "/" + l.key
		}
	}
	last := key
	if key == "" {
		what := path + " " + c.Name
		n := 0
		for _, s := range caller.calls {
			if s == what {
				n++
			}
		}
		caller.calls = append(caller.calls, what)
		last = fmt.Sprintf("%s.%d", c.Name, n)
	}
	path = strings.Replace(path+"/"+last, "//", "/", 1)
	for _, x := range r.all {
		when(x.Path == path, api.ErrDuplicate)
	}
	when(len(path) > 400, api.ErrTooLong)
	x := r.instance(c, path, args)
	r.levels = append(r.levels, level{kind: api.TemplateCall, key: key, instance: x})
	for _, t := range c.Body {
		r.template(t)
	}
	r.levels = r.levels[:len(r.levels)-1]
}

func (r *reading) instance(c api.Component, path string, args []api.Value) *instanceRead {
	x := &instanceRead{Instance: api.Instance{Path: path, Name: c.Name, Args: args}, component: c}
	r.all = append(r.all, x)
	for _, old := range r.former.Instances {
		if old.Path == path && old.Name == c.Name {
			x.known, x.Values, x.seen = true, old.Values, old.Seen
			return x
		}
	}
	for _, s := range c.Slots {
		x.Values = append(x.Values, evalRead(s.Init, x.bindings(false)))
	}
	return x
}

func renderRead(p api.Program, former api.Running, args []api.Value) (v api.View, next api.Running, emitted []api.Value) {
	validateRead(p)
	when(len(args) != len(p.Components[0].Params), api.ErrType)
	for _, a := range args {
		when(expr.Check(a) != api.OK, expr.Check(a))
	}
	runningRead(p, former)
	r := &reading{program: p, former: former, levels: []level{{kind: api.TemplateElement}}}
	root := r.instance(p.Components[0], "/", args)
	r.within(level{kind: api.TemplateCall, instance: root}, root.component.Body)
	when(len(r.levels[0].views) != 1, api.ErrKind)
	for _, x := range r.all {
		for i, f := range x.component.Effects {
			var seen []api.Value
			same := x.known
			for j, e := range f.Deps {
				seen = append(seen, evalRead(e, x.bindings(true)))
				same = same && expr.Equal(seen[j], x.seen[i][j])
			}
			x.Seen = append(x.Seen, seen)
			if !same {
				emitted = append(emitted, evalRead(f.Emit, x.bindings(true)))
			}
		}
		next.Instances = append(next.Instances, x.Instance)
	}
	sort.Slice(next.Instances, func(i, j int) bool { return next.Instances[i].Path < next.Instances[j].Path })
	return r.levels[0].views[0], next, emitted
}

func handleRead(p api.Program, r api.Running, a api.Action, args []api.Value) (next api.Running, emitted []api.Value) {
	validateRead(p)
	runningRead(p, r)
	for i, x := range r.Instances {
		c, _ := namedRead(p, x.Name)
		for _, h := range c.Handlers {
			if x.Path != a.Instance || h.Name != a.Handler {
				continue
			}
			given := slices.Concat(a.Args, args)
			when(len(given) != len(h.Params), api.ErrType)
			env := (&instanceRead{Instance: x, component: c}).bindings(true)
			for j, v := range given {
				when(expr.Check(v) != api.OK, expr.Check(v))
				env = append(env, api.Binding{Name: h.Params[j], Value: v})
			}
			values := slices.Clone(x.Values)
			for _, s := range h.Sets {
				v := evalRead(s.E, env)
				for j := range c.Slots {
					if c.Slots[j].Name == s.Slot {
						values[j] = v
					}
				}
			}
			for _, e := range h.Emit {
				emitted = append(emitted, evalRead(e, env))
			}
			next.Instances = slices.Clone(r.Instances)
			next.Instances[i].Values = values
			return next, emitted
		}
	}
	panic(api.ErrMissing)
}

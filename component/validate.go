package component

import (
	"slices"

	"widgetry/api"
	"widgetry/expr"
)

// validator examines the parts of a component.
type validator struct {
	program  api.Program
	slots    []string
	handlers []string
}

func validateComponent(p api.Program, c api.Component) api.Errno {
	v := validator{program: p}
	for _, s := range c.Slots {
		v.slots = append(v.slots, s.Name)
	}
	for _, h := range c.Handlers {
		v.handlers = append(v.handlers, h.Name)
	}
	scope, e := declare(nil, slices.Concat(c.Params, v.slots)...)
	if e != api.OK {
		return e
	}
	if _, e := declare(nil, v.handlers...); e != api.OK {
		return e
	}
	for _, s := range c.Slots {
		// When a slot gets its first value, no slot has one yet.
		if e := validateExpressions(c.Params, s.Init); e != api.OK {
			return e
		}
	}
	for _, h := range c.Handlers {
		if e := v.handler(h, scope); e != api.OK {
			return e
		}
	}
	for _, f := range c.Effects {
		if e := validateExpressions(scope, slices.Concat(f.Deps, []api.Expr{f.Emit})...); e != api.OK {
			return e
		}
	}
	return v.templates(c.Body, scope, 1)
}

// declare returns the names that are taken after names have been declared in order. The error is ErrName for one that is no name, and ErrDuplicate for one that is taken.
func declare(taken []string, names ...string) ([]string, api.Errno) {
	all := slices.Clone(taken)
	for _, s := range names {
		switch {
		case !expr.Name(s):
			return nil, api.ErrName
		case slices.Contains(all, s):
			return nil, api.ErrDuplicate
		}
		all = append(all, s)
	}
	return all, api.OK
}

func validateExpressions(scope []string, l ...api.Expr) api.Errno {
	for _, e := range l {
		if err := expr.Validate(e); err != api.OK {
			return err
		}
		for _, name := range variables(e) {
			if !slices.Contains(scope, name) {
				return api.ErrName
			}
		}
	}
	return api.OK
}

// variables returns the names of the variables of a valid expression.
func variables(e api.Expr) []string {
	if e.Op == api.OpVar {
		return []string{e.S}
	}
	var names []string
	for _, x := range e.Args {
		names = append(names, variables(x)...)
	}
	return names
}

func (v validator) handler(h api.Handler, scope []string) api.Errno {
	scope, e := declare(scope, h.Params...)
	if e != api.OK {
		return e
	}
	var set []string
	for _, a := range h.Sets {
		if !slices.Contains(v.slots, a.Slot) {
			return api.ErrMissing
		}
		if set, e = declare(set, a.Slot); e != api.OK {
			return e
		}
		if e := validateExpressions(scope, a.E); e != api.OK {
			return e
		}
	}
	return validateExpressions(scope, h.Emit...)
}

// templates examines templates that are nested that deep.
func (v validator) templates(l []api.Template, scope []string, depth int) api.Errno {
	for _, t := range l {
		if e := v.template(t, scope, depth); e != api.OK {
			return e
		}
	}
	return api.OK
}

func (v validator) template(t api.Template, scope []string, depth int) api.Errno {
	if depth > api.MaxDepth {
		return api.ErrDepth
	}
	if !formed(t) {
		return api.ErrKind
	}
	inner := scope
	switch t.Kind {
	case api.TemplateCall:
		if _, ok := componentNamed(v.program, t.Name); !ok {
			return api.ErrMissing
		}
	case api.TemplateEach:
		all, e := declare(scope, t.Var)
		if e != api.OK {
			return e
		}
		inner = all
	}
	if e := validateExpressions(scope, t.E...); e != api.OK {
		return e
	}
	if e := validateExpressions(inner, t.Key...); e != api.OK {
		return e
	}
	if e := v.settings(t, scope); e != api.OK {
		return e
	}
	if e := v.hooks(t.Hooks, scope); e != api.OK {
		return e
	}
	return v.templates(t.Kids, inner, depth+1)
}

// formed reports whether the kind of t exists, and t has as many parts as the templates of its kind, and nothing in the fields that they do not use.
func formed(t api.Template) bool {
	if len(t.Key) > 1 || t.Var != "" && t.Kind != api.TemplateEach {
		return false
	}
	plain := t.Name == "" && len(t.Settings) == 0 && len(t.Hooks) == 0
	switch t.Kind {
	case api.TemplateElement:
		return viewKind(t.Name) != 0 && len(t.E) == 0
	case api.TemplateIf:
		return plain && len(t.E) == 1 && len(t.Key) == 0
	case api.TemplateEach:
		return plain && len(t.E) == 1 && len(t.Key) == 1
	case api.TemplateCall:
		return len(t.E) == 0 && len(t.Hooks) == 0 && len(t.Kids) == 0
	}
	return false
}

func (v validator) settings(t api.Template, scope []string) api.Errno {
	isCall := t.Kind == api.TemplateCall
	called, _ := componentNamed(v.program, t.Name)
	var set []string
	for _, s := range t.Settings {
		if isCall && !slices.Contains(called.Params, s.Name) {
			return api.ErrName
		}
		var e api.Errno
		if set, e = declare(set, s.Name); e != api.OK {
			return e
		}
		if e := validateExpressions(scope, s.E); e != api.OK {
			return e
		}
	}
	if isCall && len(t.Settings) < len(called.Params) {
		return api.ErrMissing
	}
	return api.OK
}

func (v validator) hooks(l []api.Hook, scope []string) api.Errno {
	var events []string
	for _, h := range l {
		var e api.Errno
		if events, e = declare(events, h.Event); e != api.OK {
			return e
		}
		if !slices.Contains(v.handlers, h.Handler) {
			return api.ErrMissing
		}
		if e := validateExpressions(scope, h.Args...); e != api.OK {
			return e
		}
	}
	return api.OK
}

package component

import (
	"slices"
	"strconv"
	"strings"

	"widgetry/api"
)

// place is a place in the body of an instance where templates are expanded.
type place struct {
	caller *instance
	env    []api.Binding
	parts  string // of paths: that of the instance and the keys around the place
	key    string // of the views that have none of their own
	depth  int    // how many views are around the place
}

// templates returns siblings with the views of l behind them.
func (x *expansion) templates(l []api.Template, at place, siblings []api.View) ([]api.View, api.Errno) {
	for _, t := range l {
		all, e := x.template(t, at, siblings)
		if e != api.OK {
			return nil, e
		}
		siblings = all
	}
	return siblings, api.OK
}

func (x *expansion) template(t api.Template, at place, siblings []api.View) ([]api.View, api.Errno) {
	x.steps++
	if x.steps > api.MaxSteps {
		return nil, api.ErrTooLong
	}
	switch t.Kind {
	case api.TemplateElement:
		return x.element(t, at, siblings)
	case api.TemplateIf:
		return x.choice(t, at, siblings)
	case api.TemplateEach:
		return x.each(t, at, siblings)
	}
	return x.call(t, at, siblings)
}

func (x *expansion) choice(t api.Template, at place, siblings []api.View) ([]api.View, api.Errno) {
	v, e := evaluateOf(api.ValueBool, t.E[0], at.env)
	if e != api.OK {
		return nil, e
	}
	if v.N == 0 {
		return siblings, api.OK
	}
	return x.templates(t.Kids, at, siblings)
}

func (x *expansion) each(t api.Template, at place, siblings []api.View) ([]api.View, api.Errno) {
	list, e := evaluateOf(api.ValueList, t.E[0], at.env)
	if e != api.OK {
		return nil, e
	}
	for _, v := range list.L {
		inner := at
		inner.env = bind(at.env, []string{t.Var}, []api.Value{v})
		if inner.key, e = evaluateKey(t.Key, inner.env); e != api.OK {
			return nil, e
		}
		inner.parts += "/" + inner.key
		if siblings, e = x.templates(t.Kids, inner, siblings); e != api.OK {
			return nil, e
		}
	}
	return siblings, api.OK
}

func (x *expansion) element(t api.Template, at place, siblings []api.View) ([]api.View, api.Errno) {
	view, e := describe(t, at)
	if e != api.OK {
		return nil, e
	}
	inner := place{caller: at.caller, env: at.env, parts: at.parts, depth: at.depth + 1}
	if view.Key != "" {
		inner.parts += "/" + view.Key
	} else {
		view.Key = at.key
	}
	if inner.depth > api.MaxDepth {
		return nil, api.ErrDepth
	}
	if view.Kids, e = x.templates(t.Kids, inner, nil); e != api.OK {
		return nil, e
	}
	x.views++
	if x.views > api.MaxNodes || len(view.Kids) > api.MaxKids || len(view.Attrs) > api.MaxAttrs || len(view.Actions) > api.MaxAttrs {
		return nil, api.ErrTooLong
	}
	if view.Key != "" && slices.ContainsFunc(siblings, func(v api.View) bool { return v.Key == view.Key }) {
		return nil, api.ErrDuplicate
	}
	return append(siblings, view), api.OK
}

// describe returns the view of an element with its own key and without children.
func describe(t api.Template, at place) (api.View, api.Errno) {
	key, e := evaluateKey(t.Key, at.env)
	if e != api.OK {
		return api.View{}, e
	}
	view := api.View{Kind: viewKind(t.Name), Key: key}
	for _, s := range t.Settings {
		v, e := evaluate(s.E, at.env)
		if e != api.OK {
			return api.View{}, e
		}
		view.Attrs = append(view.Attrs, api.Attr{Name: s.Name, Value: v})
	}
	for _, h := range t.Hooks {
		args, e := evaluateAll(h.Args, at.env)
		if e != api.OK {
			return api.View{}, e
		}
		view.Actions = append(view.Actions, api.Action{Event: h.Event, Instance: at.caller.Path, Handler: h.Handler, Args: args})
	}
	slices.SortFunc(view.Attrs, func(a, b api.Attr) int { return strings.Compare(a.Name, b.Name) })
	slices.SortFunc(view.Actions, func(a, b api.Action) int { return strings.Compare(a.Event, b.Event) })
	return view, api.OK
}

func (x *expansion) call(t api.Template, at place, siblings []api.View) ([]api.View, api.Errno) {
	key, e := evaluateKey(t.Key, at.env)
	if e != api.OK {
		return nil, e
	}
	c, _ := componentNamed(x.program, t.Name)
	args, e := arguments(c, t.Settings, at.env)
	if e != api.OK {
		return nil, e
	}
	if at.caller.depth == api.MaxDepth {
		return nil, api.ErrDepth
	}
	path := at.path(key, t.Name)
	if x.paths[path] {
		return nil, api.ErrDuplicate
	}
	if len(path) > api.MaxPath {
		return nil, api.ErrTooLong
	}
	i, e := x.begin(c, path, args, at.caller.depth+1)
	if e != api.OK {
		return nil, e
	}
	inner := place{caller: i, env: i.env, parts: path, key: at.key, depth: at.depth}
	if key != "" {
		inner.key = key
	}
	return x.templates(c.Body, inner, siblings)
}

// arguments returns the arguments of a call in the order of the parameters.
func arguments(c api.Component, l []api.Setting, env []api.Binding) ([]api.Value, api.Errno) {
	args := make([]api.Value, len(c.Params))
	for _, s := range l {
		v, e := evaluate(s.E, env)
		if e != api.OK {
			return nil, e
		}
		args[slices.Index(c.Params, s.Name)] = v
	}
	return args, api.OK
}

// path returns the path of an instance that is called with a key, or without one (""), and counts the call.
func (at place) path(key, name string) string {
	if key != "" {
		return at.parts + "/" + key
	}
	path := at.parts + "/" + name
	n := at.caller.calls[path]
	at.caller.calls[path]++
	return path + "." + strconv.Itoa(n)
}

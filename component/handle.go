package component

import (
	"slices"

	"widgetry/api"
)

// handle lets the instance of r with the index at react to an event.
func handle(p api.Program, r api.Running, at int, a api.Action, args []api.Value) (api.Running, []api.Value, api.Errno) {
	x := r.Instances[at]
	c, _ := componentNamed(p, x.Name)
	i := slices.IndexFunc(c.Handlers, func(h api.Handler) bool { return h.Name == a.Handler })
	if i < 0 {
		return api.Running{}, nil, api.ErrMissing
	}
	h, given := c.Handlers[i], slices.Concat(a.Args, args)
	if len(given) != len(h.Params) {
		return api.Running{}, nil, api.ErrType
	}
	if e := checkValues(given); e != api.OK {
		return api.Running{}, nil, e
	}
	env := bind(environment(c, x.Args, x.Values), h.Params, given)
	var sets []api.Expr
	for _, s := range h.Sets {
		sets = append(sets, s.E)
	}
	values, e := evaluateAll(sets, env)
	if e != api.OK {
		return api.Running{}, nil, e
	}
	emitted, e := evaluateAll(h.Emit, env)
	if e != api.OK {
		return api.Running{}, nil, e
	}
	next := copyRunning(r)
	for i, s := range h.Sets {
		slot := slices.IndexFunc(c.Slots, func(t api.Slot) bool { return t.Name == s.Slot })
		next.Instances[at].Values[slot] = values[i]
	}
	return next, emitted, api.OK
}

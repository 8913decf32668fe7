package component

import (
	"slices"

	"widgetry/api"
	"widgetry/expr"
)

// bind returns env with bindings of as many names to values.
func bind(env []api.Binding, names []string, values []api.Value) []api.Binding {
	all := slices.Clone(env)
	for i, s := range names {
		all = append(all, api.Binding{Name: s, Value: values[i]})
	}
	return all
}

// environment returns the bindings of the parameters and the slots of a component.
func environment(c api.Component, args, values []api.Value) []api.Binding {
	var slots []string
	for _, s := range c.Slots {
		slots = append(slots, s.Name)
	}
	return bind(bind(nil, c.Params, args), slots, values)
}

// evaluate returns the value of e in env.
func evaluate(e api.Expr, env []api.Binding) (api.Value, api.Errno) {
	// Eval examines all values that it is given: it gets only those that it needs.
	names := variables(e)
	var needed []api.Binding
	for _, b := range env {
		if slices.Contains(names, b.Name) {
			needed = append(needed, b)
		}
	}
	return expr.Eval(e, needed)
}

// evaluateAll returns the values of all elements of l in env.
func evaluateAll(l []api.Expr, env []api.Binding) ([]api.Value, api.Errno) {
	var values []api.Value
	for _, e := range l {
		v, err := evaluate(e, env)
		if err != api.OK {
			return nil, err
		}
		values = append(values, v)
	}
	return values, api.OK
}

// evaluateOf returns the value of e in env, or ErrType if it has another kind.
func evaluateOf(kind int, e api.Expr, env []api.Binding) (api.Value, api.Errno) {
	v, err := evaluate(e, env)
	if err == api.OK && v.Kind != kind {
		err = api.ErrType
	}
	if err != api.OK {
		return api.Value{}, err
	}
	return v, api.OK
}

// evaluateKey returns the key that the Key of a template gives, or "" if there is none.
func evaluateKey(l []api.Expr, env []api.Binding) (string, api.Errno) {
	if len(l) == 0 {
		return "", api.OK
	}
	v, e := evaluateOf(api.ValueText, l[0], env)
	if e == api.OK && !isKey(v.S) {
		e = api.ErrName
	}
	if e != api.OK {
		return "", e
	}
	return v.S, api.OK
}

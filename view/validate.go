package view

import (
	"widgetry/api"
	"widgetry/expr"
)

func isKeyByte(b byte) bool {
	return 'a' <= b && b <= 'z' || 'A' <= b && b <= 'Z' || '0' <= b && b <= '9' || b == '-' || b == '_'
}

// validator counts the views that it has met.
type validator struct{ met int }

// validate examines a view that is nested that deep, and its children.
func (x *validator) validate(v api.View, depth int) api.Errno {
	x.met++
	switch {
	case depth > api.MaxDepth:
		return api.ErrDepth
	case x.met > api.MaxNodes:
		return api.ErrTooLong
	}
	if e := validateAlone(v); e != api.OK {
		return e
	}
	for _, k := range v.Kids {
		if e := x.validate(k, depth+1); e != api.OK {
			return e
		}
	}
	return api.OK
}

// validateAlone returns what is wrong with a view itself, whatever its place and its children are.
func validateAlone(v api.View) api.Errno {
	switch {
	case v.Kind < 1 || v.Kind > api.MostKind:
		return api.ErrKind
	case !Key(v.Key):
		return api.ErrName
	case len(v.Attrs) > api.MaxAttrs || len(v.Actions) > api.MaxAttrs || len(v.Kids) > api.MaxKids:
		return api.ErrTooLong
	}
	if e := validateAttrs(v.Attrs); e != api.OK {
		return e
	}
	if e := validateActions(v.Actions); e != api.OK {
		return e
	}
	if shareKey(v.Kids) {
		return api.ErrDuplicate
	}
	return api.OK
}

func validateAttrs(l []api.Attr) api.Errno {
	for i, a := range l {
		if !expr.Name(a.Name) {
			return api.ErrName
		}
		if i > 0 && a.Name <= l[i-1].Name {
			return api.ErrOrder
		}
		if e := expr.Check(a.Value); e != api.OK {
			return e
		}
	}
	return api.OK
}

func validateActions(l []api.Action) api.Errno {
	for i, a := range l {
		switch {
		case !expr.Name(a.Event) || !expr.Name(a.Handler):
			return api.ErrName
		case i > 0 && a.Event <= l[i-1].Event:
			return api.ErrOrder
		case len(a.Instance) > api.MaxPath || len(a.Args) > api.MaxKids:
			return api.ErrTooLong
		}
		for _, v := range a.Args {
			if e := expr.Check(v); e != api.OK {
				return e
			}
		}
	}
	return api.OK
}

// shareKey reports whether two views of l have the same key.
func shareKey(l []api.View) bool {
	met := map[string]bool{}
	for _, v := range l {
		if met[v.Key] {
			return true
		}
		if v.Key != "" {
			met[v.Key] = true
		}
	}
	return false
}

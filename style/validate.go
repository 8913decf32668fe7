package style

import (
	"widgetry/api"
	"widgetry/expr"
)

const (
	mostDecls = 50

	passing   = api.StateHovered | api.StatePressed | api.StateFocused // what a pointer or the focus does to a node
	allStates = passing | api.StateDisabled | api.StateChecked
)

// Validate returns OK if s is a valid style sheet, otherwise the first thing that is wrong with it.
func Validate(s api.Sheet) api.Errno {
	if len(s.Rules) > api.MaxRules {
		return api.ErrTooLong
	}
	for _, r := range s.Rules {
		if e := validateRule(r); e != api.OK {
			return e
		}
	}
	return api.OK
}

func validateRule(r api.Rule) api.Errno {
	switch {
	case !within(r.Kind, 0, api.MostKind) || !within(r.UnderKind, 0, api.MostKind):
		return api.ErrKind
	case !isClass(r.Class) || !isClass(r.UnderClass):
		return api.ErrName
	case !within(r.States, 0, allStates):
		return api.ErrRange
	case len(r.Decls) > mostDecls:
		return api.ErrTooLong
	}
	for _, d := range r.Decls {
		if e := validateDecl(d, r.States); e != api.OK {
			return e
		}
	}
	return api.OK
}

func isClass(s string) bool {
	return s == "" || expr.Name(s)
}

// validateDecl examines a declaration of a rule for nodes with the states.
func validateDecl(d api.Decl, states int) api.Errno {
	switch {
	case !exists(d.Prop):
		return api.ErrRange
	case !within(d.Source, api.DeclLiteral, api.DeclInitial) || !usesFields(d):
		return api.ErrKind
	case d.Source == api.DeclLiteral && !InRange(d.Prop, d.N):
		return api.ErrRange
	case d.Source == api.DeclToken && !expr.Name(d.Token):
		return api.ErrName
	case canHide(d.Prop) && states&passing != 0:
		return api.ErrConflict
	}
	return api.OK
}

// usesFields reports whether the fields that are set are those of the source.
func usesFields(d api.Decl) bool {
	return (d.N == 0 || d.Source == api.DeclLiteral) && (d.Token == "" || d.Source == api.DeclToken)
}

// canHide reports whether the property can make a node disappear.
func canHide(prop int) bool {
	return prop == api.PropDisplay || prop == api.PropVisibility
}

package expr

import (
	"slices"

	"widgetry/api"
)

// scope contains typings and, in the same order, the types that they give.
type scope struct {
	env   []api.Typing
	types []flat
}

// newScope returns ErrKind if a type is not valid.
func newScope(env []api.Typing) (scope, api.Errno) {
	s := scope{env: env}
	for _, x := range env {
		t, ok := flatten(x.T)
		if !ok {
			return scope{}, api.ErrKind
		}
		s.types = append(s.types, t)
	}
	return s, api.OK
}

// infer returns the type of a valid expression.
func (s scope) infer(e api.Expr) (flat, api.Errno) {
	if e.Op == api.OpVar {
		return s.variable(e.S)
	}
	args := make([]flat, len(e.Args))
	for i, x := range e.Args {
		t, err := s.infer(x)
		if err != api.OK {
			return flat{}, err
		}
		args[i] = t
	}
	if !fits(e.Op, args) {
		return flat{}, api.ErrType
	}
	return result(e.Op, args)
}

func (s scope) variable(name string) (flat, api.Errno) {
	for i, x := range slices.Backward(s.env) {
		if x.Name == name {
			return s.types[i], api.OK
		}
	}
	return flat{}, api.ErrName
}

// fits reports whether operands of these types are what the operator requires.
func fits(op int, args []flat) bool {
	switch op {
	case api.OpAdd, api.OpSub, api.OpMul, api.OpDiv, api.OpMod, api.OpLess:
		return args[0].is(api.ValueInt) && args[1].is(api.ValueInt)
	case api.OpShow:
		return args[0].is(api.ValueInt)
	case api.OpNot:
		return args[0].is(api.ValueBool)
	case api.OpAnd, api.OpOr:
		return args[0].is(api.ValueBool) && args[1].is(api.ValueBool)
	case api.OpIf:
		_, ok := join(args[1], args[2])
		return ok && args[0].is(api.ValueBool)
	case api.OpLength:
		return args[0].is(api.ValueText) || args[0].isList()
	case api.OpConcat:
		t, ok := join(args[0], args[1])
		return ok && (t.is(api.ValueText) || t.isList())
	case api.OpItem, api.OpDrop:
		return args[0].isList() && args[1].is(api.ValueInt)
	case api.OpEqual, api.OpList:
		_, ok := common(args)
		return ok
	}
	return true
}

// result returns the type of the results of an operator for operands that fit.
func result(op int, args []flat) (flat, api.Errno) {
	switch op {
	case api.OpBool, api.OpLess, api.OpEqual, api.OpNot, api.OpAnd, api.OpOr:
		return flat{base: api.ValueBool}, api.OK
	case api.OpText, api.OpShow:
		return flat{base: api.ValueText}, api.OK
	case api.OpIf:
		t, _ := join(args[1], args[2])
		return t, api.OK
	case api.OpConcat:
		t, _ := join(args[0], args[1])
		return t, api.OK
	case api.OpDrop:
		return args[0], api.OK
	case api.OpItem:
		// The elements of a list that is always empty have no type.
		if args[0].of() == (flat{}) {
			return flat{}, api.ErrType
		}
		return args[0].of(), api.OK
	case api.OpList:
		t, _ := common(args)
		if t.lists == api.MaxDepth {
			return flat{}, api.ErrDepth
		}
		return t.list(), api.OK
	}
	return flat{base: api.ValueInt}, api.OK
}

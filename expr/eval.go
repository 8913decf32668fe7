package expr

import (
	"slices"
	"strconv"
	"unicode/utf8"

	"widgetry/api"
	"widgetry/fixed"
)

// evaluator evaluates valid expressions with bindings of valid values.
type evaluator struct{ env []api.Binding }

func (v evaluator) eval(e api.Expr) (api.Value, api.Errno) {
	switch e.Op {
	case api.OpInt:
		return integer(e.N), api.OK
	case api.OpBool:
		return truth(e.N == 1), api.OK
	case api.OpText:
		return text(e.S), api.OK
	case api.OpVar:
		return v.variable(e.S)
	case api.OpAnd, api.OpOr, api.OpIf:
		return v.decide(e)
	}
	args := make([]api.Value, len(e.Args))
	for i, x := range e.Args {
		arg, err := v.eval(x)
		if err != api.OK {
			return api.Value{}, err
		}
		args[i] = arg
	}
	return operate(e.Op, args)
}

func (v evaluator) variable(name string) (api.Value, api.Errno) {
	for _, x := range slices.Backward(v.env) {
		if x.Name == name {
			return x.Value, api.OK
		}
	}
	return api.Value{}, api.ErrName
}

// decide evaluates an operator whose first operand decides which of the others are evaluated.
func (v evaluator) decide(e api.Expr) (api.Value, api.Errno) {
	first, err := v.eval(e.Args[0])
	if err != api.OK {
		return api.Value{}, err
	}
	if first.Kind != api.ValueBool {
		return api.Value{}, api.ErrType
	}
	holds := first.N == 1
	switch {
	case e.Op == api.OpIf && holds:
		return v.eval(e.Args[1])
	case e.Op == api.OpIf:
		return v.eval(e.Args[2])
	case holds == (e.Op == api.OpOr):
		return first, api.OK
	}
	second, err := v.eval(e.Args[1])
	if err != api.OK {
		return api.Value{}, err
	}
	if second.Kind != api.ValueBool {
		return api.Value{}, api.ErrType
	}
	return second, api.OK
}

// operate applies an operator to the values of all its operands.
func operate(op int, args []api.Value) (api.Value, api.Errno) {
	types := make([]flat, len(args))
	for i, x := range args {
		types[i], _ = typeOf(x)
	}
	if !fits(op, types) {
		return api.Value{}, api.ErrType
	}
	v, err := apply(op, args)
	if err == api.OK {
		err = Check(v)
	}
	if err != api.OK {
		return api.Value{}, err
	}
	return v, api.OK
}

// apply applies an operator to operands that fit; the result may be a value that is not valid.
func apply(op int, args []api.Value) (api.Value, api.Errno) {
	switch op {
	case api.OpList:
		return list(args), api.OK
	case api.OpEqual:
		return truth(equal(args[0], args[1])), api.OK
	case api.OpNot:
		return truth(args[0].N == 0), api.OK
	case api.OpLess:
		return truth(args[0].N < args[1].N), api.OK
	case api.OpShow:
		return text(strconv.Itoa(args[0].N)), api.OK
	case api.OpLength:
		// A text has no elements, and a list has no runes.
		return integer(utf8.RuneCountInString(args[0].S) + len(args[0].L)), api.OK
	case api.OpConcat:
		if args[0].Kind == api.ValueText {
			return text(args[0].S + args[1].S), api.OK
		}
		return list(slices.Concat(args[0].L, args[1].L)), api.OK
	case api.OpItem, api.OpDrop:
		return pick(op, args[0].L, args[1].N)
	}
	n, err := calculate(op, args[0].N, args[1].N)
	return integer(n), err
}

// pick returns the element of l with the index at, or l without it.
func pick(op int, l []api.Value, at int) (api.Value, api.Errno) {
	if at < 0 || at >= len(l) {
		return api.Value{}, api.ErrRange
	}
	if op == api.OpItem {
		return l[at], api.OK
	}
	return list(slices.Concat(l[:at], l[at+1:])), api.OK
}

// calculate returns the result of an operator of integers.
func calculate(op, a, b int) (int, api.Errno) {
	switch op {
	case api.OpAdd:
		return a + b, api.OK
	case api.OpSub:
		return a - b, api.OK
	case api.OpMul:
		// The exact product may be no int.
		if b != 0 && abs(a) > api.MaxNumber/abs(b) {
			return 0, api.ErrRange
		}
		return a * b, api.OK
	}
	if b == 0 {
		return 0, api.ErrRange
	}
	if op == api.OpDiv {
		return fixed.Floor(a, b), api.OK
	}
	return a - b*fixed.Floor(a, b), api.OK
}

func abs(n int) int {
	return max(n, -n)
}

func integer(n int) api.Value {
	return api.Value{Kind: api.ValueInt, N: n}
}

func truth(b bool) api.Value {
	if b {
		return api.Value{Kind: api.ValueBool, N: 1}
	}
	return api.Value{Kind: api.ValueBool}
}

func text(s string) api.Value {
	return api.Value{Kind: api.ValueText, S: s}
}

func list(l []api.Value) api.Value {
	return api.Value{Kind: api.ValueList, L: l}
}

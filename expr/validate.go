package expr

import (
	"unicode/utf8"

	"widgetry/api"
)

// validator counts the expressions that it has met.
type validator struct{ met int }

// validate examines an expression that is nested that deep, and its operands.
func (v *validator) validate(e api.Expr, depth int) api.Errno {
	v.met++
	if depth > api.MaxDepth {
		return api.ErrDepth
	}
	if v.met > api.MaxParts {
		return api.ErrTooLong
	}
	if !formed(e) {
		return api.ErrKind
	}
	if err := validateContent(e); err != api.OK {
		return err
	}
	for _, x := range e.Args {
		if err := v.validate(x, depth+1); err != api.OK {
			return err
		}
	}
	return api.OK
}

// formed reports whether the operator of e exists, and e has as many operands as it needs, and nothing in the fields that it does not use.
func formed(e api.Expr) bool {
	least, most := operands(e.Op)
	if len(e.Args) < least || len(e.Args) > most {
		return false
	}
	usesN := e.Op == api.OpInt || e.Op == api.OpBool
	usesS := e.Op == api.OpText || e.Op == api.OpVar
	return (usesN || e.N == 0) && (usesS || e.S == "")
}

// operands returns the least and the greatest number of operands of op; no number is possible for an operator that does not exist.
func operands(op int) (least, most int) {
	switch op {
	case api.OpInt, api.OpBool, api.OpText, api.OpVar:
		return 0, 0
	case api.OpNot, api.OpLength, api.OpShow:
		return 1, 1
	case api.OpAdd, api.OpSub, api.OpMul, api.OpDiv, api.OpMod, api.OpLess, api.OpEqual, api.OpAnd, api.OpOr, api.OpConcat, api.OpItem, api.OpDrop:
		return 2, 2
	case api.OpIf:
		return 3, 3
	case api.OpList:
		return 0, api.MaxKids
	}
	return 1, 0
}

// validateContent examines the number, the text or the name of e.
func validateContent(e api.Expr) api.Errno {
	switch {
	case e.Op == api.OpInt && !isNumber(e.N), e.Op == api.OpBool && !isTruth(e.N):
		return api.ErrRange
	case e.Op == api.OpText && len(e.S) > api.MaxString:
		return api.ErrTooLong
	case e.Op == api.OpText && !utf8.ValidString(e.S):
		return api.ErrSyntax
	case e.Op == api.OpVar && !Name(e.S):
		return api.ErrName
	}
	return api.OK
}

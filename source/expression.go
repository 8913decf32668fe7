package source

import (
	"strconv"
	"strings"

	"widgetry/api"
	"widgetry/expr"
)

// mostDigits is the greatest number of digits of an integer.
const mostDigits = 13

// outermost parses an expression that is no operand.
func (p *parser) outermost() api.Expr {
	return p.expression(1)
}

// expressions parses expressions up to a ")".
func (p *parser) expressions() []api.Expr {
	return until(p, p.outermost)
}

// expression parses an expression that is nested that deep.
func (p *parser) expression(depth int) api.Expr {
	t := p.first
	if t.kind == tokenOpen {
		return p.operation(depth)
	}
	e := atom(t)
	// What is wrong with the token itself comes before its depth.
	limitDepth(t, depth)
	p.take(t.kind)
	return e
}

func (p *parser) operation(depth int) api.Expr {
	limitDepth(p.take(tokenOpen), depth)
	word := p.take(tokenWord)
	op, ok := operator(word.text)
	if !ok {
		panic(failure{word.from, api.ErrName})
	}
	e := api.Expr{Op: op}
	least, most := operands(op)
	for len(e.Args) < least || len(e.Args) < most && p.first.kind != tokenClose {
		e.Args = append(e.Args, p.expression(depth+1))
	}
	p.take(tokenClose)
	return e
}

// atom returns the expression that consists of a single token.
func atom(t token) api.Expr {
	switch {
	case t.kind == tokenString && len(t.text) > api.MaxString:
		panic(failure{t.from, api.ErrTooLong})
	case t.kind == tokenString:
		return api.Expr{Op: api.OpText, S: t.text}
	case t.kind != tokenWord:
		panic(failure{t.from, api.ErrSyntax})
	case t.text == "true":
		return api.Expr{Op: api.OpBool, N: 1}
	case t.text == "false":
		return api.Expr{Op: api.OpBool}
	case isInteger(t.text):
		return api.Expr{Op: api.OpInt, N: integer(t)}
	case expr.Name(t.text):
		return api.Expr{Op: api.OpVar, S: t.text}
	}
	panic(failure{t.from, api.ErrName})
}

// isInteger reports whether a word consists of digits, perhaps with a "-" before them.
func isInteger(word string) bool {
	digits := strings.TrimPrefix(word, "-")
	return digits != "" && strings.Trim(digits, "0123456789") == ""
}

// integer returns the number that a token stands for.
func integer(t token) int {
	digits := strings.TrimPrefix(t.text, "-")
	if len(digits) > mostDigits || digits[0] == '0' && t.text != "0" {
		panic(failure{t.from, api.ErrSyntax})
	}
	// With so few digits it is an int.
	n, _ := strconv.Atoi(t.text)
	if n < -api.MaxNumber || n > api.MaxNumber {
		panic(failure{t.from, api.ErrRange})
	}
	return n
}

// limitDepth fails if what begins with the token t is nested too deeply.
func limitDepth(t token, depth int) {
	if depth > api.MaxDepth {
		panic(failure{t.from, api.ErrDepth})
	}
}

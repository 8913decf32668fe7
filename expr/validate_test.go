package expr

import (
	"math"
	"slices"
	"strings"
	"testing"

	"widgetry/api"
)

func op(op int, args ...api.Expr) api.Expr { return api.Expr{Op: op, Args: args} }
func lit(n int) api.Expr                   { return api.Expr{Op: api.OpInt, N: n} }
func cond(n int) api.Expr                  { return api.Expr{Op: api.OpBool, N: n} }
func word(s string) api.Expr               { return api.Expr{Op: api.OpText, S: s} }
func name(s string) api.Expr               { return api.Expr{Op: api.OpVar, S: s} }

// nots returns e under that many operators.
func nots(n int, e api.Expr) api.Expr {
	for range n {
		e = op(api.OpNot, e)
	}
	return e
}

// copies returns a list of n times e.
func copies(n int, e api.Expr) api.Expr {
	return op(api.OpList, slices.Repeat([]api.Expr{e}, n)...)
}

// mass returns an expression of n expressions in total, the last of them e; n is at least 305.
func mass(n int, e api.Expr) api.Expr {
	l := slices.Repeat([]api.Expr{copies(100, lit(0))}, 3)
	last := copies(n-306, lit(0))
	last.Args = append(last.Args, e)
	return op(api.OpList, append(l, last)...)
}

// counts are the numbers of operands of each operator.
func counts(op int) (least, most int) {
	switch op {
	case 1, 2, 3, 4:
		return 0, 0
	case 12, 17, 18:
		return 1, 1
	case 5, 6, 7, 8, 9, 10, 11, 13, 14, 16, 20, 21:
		return 2, 2
	case 15:
		return 3, 3
	case 19:
		return 0, 100
	}
	return 1, -1
}

func TestOperands(t *testing.T) {
	for o := -2; o <= 30; o++ {
		least, most := counts(o)
		for n := range api.MaxKids + 3 {
			e := op(o, copies(n, lit(0)).Args...)
			if o == api.OpVar {
				e.S = "x"
			}
			want := api.OK
			if n < least || n > most {
				want = api.ErrKind
			}
			if got := Validate(e); got != want {
				t.Errorf("P11.3: Validate of the operator %d with %d operands: %d, want %d", o, n, got, want)
			}
		}
	}
	for _, o := range []int{math.MinInt, math.MaxInt} {
		if got := Validate(op(o)); got != api.ErrKind {
			t.Errorf("P11.3: Validate of the operator %d: %d", o, got)
		}
	}
}

func TestFields(t *testing.T) {
	for o := range 23 {
		least, _ := counts(o)
		e := op(o, copies(max(least, 0), lit(0)).Args...)
		if o == api.OpVar {
			e.S = "x"
		}
		wantN, wantS := api.ErrKind, api.ErrKind
		if o == api.OpInt || o == api.OpBool {
			wantN = api.OK
		}
		if o == api.OpText || o == api.OpVar {
			wantS = api.OK
		}
		withN, withS := e, e
		withN.N, withS.S = 1, "y"
		if gotN, gotS := Validate(withN), Validate(withS); gotN != wantN || gotS != wantS {
			t.Errorf("P11.3: Validate of the operator %d with N: %d, want %d, with S: %d, want %d", o, gotN, wantN, gotS, wantS)
		}
		e.Args = []api.Expr{}
		if least == 0 && Validate(e) != api.OK {
			t.Errorf("P11.3: Validate of the operator %d with Args that are empty: %d", o, Validate(e))
		}
	}
}

func TestValidate(t *testing.T) {
	long, broken := strings.Repeat("a", api.MaxString+1), "a\xFF"
	two := func(e api.Expr) api.Expr { return op(api.OpAdd, e, api.Expr{}) }
	for _, x := range []struct {
		name string
		e    api.Expr
		want api.Errno
	}{
		{"no operator", api.Expr{}, api.ErrKind},
		{"the greatest int", lit(api.MaxNumber), api.OK},
		{"the least int", lit(-api.MaxNumber), api.OK},
		{"an int that is too great", lit(api.MaxNumber + 1), api.ErrRange},
		{"an int that is too small", lit(-api.MaxNumber - 1), api.ErrRange},
		{"an int that is far too small", lit(math.MinInt), api.ErrRange},
		{"false", cond(0), api.OK},
		{"true", cond(1), api.OK},
		{"a bool of 2", cond(2), api.ErrRange},
		{"a bool of -1", cond(-1), api.ErrRange},
		{"no text", word(""), api.OK},
		{"a long text", word(long[1:]), api.OK},
		{"a text that is too long", word(long), api.ErrTooLong},
		{"no valid UTF-8", word(broken), api.ErrSyntax},
		{"too long and no valid UTF-8", word(long + broken), api.ErrTooLong},
		{"a name", name("x-1_Y"), api.OK},
		{"no name", name(""), api.ErrName},
		{"a digit", name("1"), api.ErrName},
		{"a name that is too long", name(long), api.ErrName},
		{"a name that is no valid UTF-8", name(broken), api.ErrName},
		{"a text that is no name", word("1 \x00"), api.OK},
		{"an int with a text, too great", api.Expr{Op: api.OpInt, N: api.MaxNumber + 1, S: "a"}, api.ErrKind},
		{"a bool with an operand, too great", api.Expr{Op: api.OpBool, N: 2, Args: []api.Expr{lit(0)}}, api.ErrKind},
		{"a text with a number, too long", api.Expr{Op: api.OpText, N: 1, S: long}, api.ErrKind},
		{"a text with a number, no valid UTF-8", api.Expr{Op: api.OpText, N: 1, S: broken}, api.ErrKind},
		{"no name, with a number", api.Expr{Op: api.OpVar, N: 1}, api.ErrKind},
		{"an operator with a number, and a wrong operand", api.Expr{Op: api.OpNot, N: 1, Args: []api.Expr{lit(api.MaxNumber + 1)}}, api.ErrKind},
		{"types do not matter", op(api.OpAdd, word("a"), copies(0, lit(0))), api.OK},
		{"the first operand first", two(lit(api.MaxNumber + 1)), api.ErrRange},
		{"the first operand first, a text", two(word(broken)), api.ErrSyntax},
		{"the first operand first, a name", two(name("?")), api.ErrName},
		{"the operands of the first operand first", two(op(api.OpNot, word(long))), api.ErrTooLong},
		{"then the second operand", two(lit(1)), api.ErrKind},
		{"the third operand", op(api.OpIf, cond(1), lit(1), name("?")), api.ErrName},
	} {
		if got := Validate(x.e); got != x.want {
			t.Errorf("P11.3: Validate of %s: %d, want %d", x.name, got, x.want)
		}
	}
}

func TestExtent(t *testing.T) {
	wrong := api.Expr{Op: api.OpInt, S: "a"}
	for _, x := range []struct {
		name string
		e    api.Expr
		want api.Errno
	}{
		{"as deep as possible", nots(api.MaxDepth-1, cond(1)), api.OK},
		{"too deep", nots(api.MaxDepth, cond(1)), api.ErrDepth},
		{"too deep and wrong", nots(api.MaxDepth, wrong), api.ErrDepth},
		{"as deep as possible and wrong", nots(api.MaxDepth-1, wrong), api.ErrKind},
		{"wrong and too deep", op(api.OpAdd, wrong, nots(api.MaxDepth, cond(1))), api.ErrKind},
		{"too deep, then wrong", op(api.OpAdd, nots(api.MaxDepth-1, cond(1)), wrong), api.ErrDepth},
		{"deep twice", op(api.OpAdd, nots(api.MaxDepth-2, cond(1)), nots(api.MaxDepth-2, cond(1))), api.OK},
		{"as many as possible", mass(api.MaxParts, lit(0)), api.OK},
		{"as many as possible, the last one wrong", mass(api.MaxParts, wrong), api.ErrKind},
		{"too many", mass(api.MaxParts+1, lit(0)), api.ErrTooLong},
		{"too many, the last one wrong", mass(api.MaxParts+1, wrong), api.ErrTooLong},
		{"too many, the last one wrong, in a list", mass(api.MaxParts, copies(1, wrong)), api.ErrTooLong},
		{"too many, but one of the first wrong", op(api.OpAdd, wrong, mass(api.MaxParts, lit(0))), api.ErrKind},
		{"too many, the last one too deep", mass(api.MaxParts-api.MaxDepth+3, nots(api.MaxDepth-2, lit(0))), api.ErrDepth},
		{"too many, the last one not too deep", mass(api.MaxParts-api.MaxDepth+4, nots(api.MaxDepth-3, lit(0))), api.ErrTooLong},
		{"as many and as deep as possible", mass(api.MaxParts-api.MaxDepth+3, nots(api.MaxDepth-3, lit(0))), api.OK},
		{"many twice", op(api.OpAdd, mass(350, lit(0)), mass(350, lit(0))), api.ErrTooLong},
	} {
		if got := Validate(x.e); got != x.want {
			t.Errorf("P11.3: Validate of %s: %d, want %d", x.name, got, x.want)
		}
	}
	if Validate(mass(api.MaxParts, lit(0))) != api.OK {
		t.Error("P11.3: a second expression counts with the first one")
	}
}

package expr

import (
	"math"
	"testing"

	"widgetry/api"
)

// endless returns a list of n lists each of which is the same list.
func endless(n int) api.Value {
	l := make([]api.Value, n)
	for i := range l {
		l[i] = api.Value{Kind: api.ValueList, L: l}
	}
	return seq(l...)
}

// TestEndless examines values, types and expressions that contain themselves (R1).
func TestEndless(t *testing.T) {
	for _, n := range []int{1, 2, api.MaxKids} {
		v := endless(n)
		_, typeErr := TypeOf(v)
		_, evalErr := Eval(lit(1), []api.Binding{{Name: "a", Value: v}})
		if Check(v) != api.ErrDepth || typeErr != api.ErrDepth || evalErr != api.ErrDepth || Equal(v, v) {
			t.Errorf("P11.2: a value that contains itself: %d, %d, %d, %t", Check(v), typeErr, evalErr, Equal(v, v))
		}
	}
	if got := Check(endless(api.MaxKids + 1)); got != api.ErrTooLong {
		t.Errorf("P11.2: a list of too many lists that contain themselves: %d", got)
	}
	wide := api.Value{Kind: api.ValueList}
	for range api.MaxDepth - 1 {
		wide = many(api.MaxKids, wide)
	}
	if got := Check(wide); got != api.ErrTooLong {
		t.Errorf("P11.2: a value of very many values: %d", got)
	}
	of := make([]api.Type, 1)
	of[0] = listType(of...)
	endlessType := listType(of...)
	if got, ok := Join(endlessType, endlessType); ok || !sameType(got, api.Type{}) {
		t.Errorf("P11.1: a type that contains itself: %v", ok)
	}
	if _, e := Type(lit(1), []api.Typing{{Name: "a", T: endlessType}}); e != api.ErrKind {
		t.Errorf("P11.5: a type that contains itself: %d", e)
	}
	for o := range 23 {
		args := make([]api.Expr, 2)
		e := op(o, args...)
		args[0], args[1] = e, e
		want := api.ErrKind
		if least, most := counts(o); least <= 2 && most >= 2 {
			want = api.ErrDepth
		}
		_, typeErr := Type(e, nil)
		_, evalErr := Eval(e, nil)
		if got := Validate(e); got != want || typeErr != want || evalErr != want {
			t.Errorf("P11.3: an expression with the operator %d that contains itself: %d, %d, %d, want %d", o, got, typeErr, evalErr, want)
		}
	}
	broad := op(api.OpList)
	for range api.MaxDepth - 1 {
		broad = copies(api.MaxKids, broad)
	}
	if got := Validate(broad); got != api.ErrTooLong {
		t.Errorf("P11.3: an expression of very many expressions: %d", got)
	}
}

// TestStrangeNumbers examines numbers far beyond the limits.
func TestStrangeNumbers(t *testing.T) {
	for _, n := range []int{math.MinInt, math.MinInt + 1, -1 << 62, 1 << 62, math.MaxInt} {
		if Check(num(n)) != api.ErrRange || Check(flag(n)) != api.ErrRange || Check(api.Value{Kind: n}) != api.ErrKind || Validate(lit(n)) != api.ErrRange || Validate(cond(n)) != api.ErrRange || Validate(op(n)) != api.ErrKind {
			t.Errorf("P11.2, P11.3: the number %d is accepted", n)
		}
		if _, ok := Join(api.Type{Kind: n}, api.Type{Kind: n}); ok {
			t.Errorf("P11.1: the kind %d is accepted", n)
		}
	}
}

// overwrite changes all memory of a value that its holder can reach.
func overwrite(v api.Value) {
	for i := range v.L {
		overwrite(v.L[i])
	}
	l := v.L[:cap(v.L)]
	for i := range l {
		l[i] = str("overwritten")
	}
}

func overwriteType(t api.Type) {
	for i := range t.Of {
		overwriteType(t.Of[i])
	}
	l := t.Of[:cap(t.Of)]
	for i := range l {
		l[i] = api.Type{Kind: 99}
	}
}

// TestMemoryOfValues checks that results share memory neither with arguments nor with one another (R2).
func TestMemoryOfValues(t *testing.T) {
	binding := func() []api.Binding {
		return []api.Binding{{Name: "a", Value: seq(ints(1, 2), ints(3), ints(4, 5, 6))}}
	}
	env, a := binding(), name("a")
	for _, e := range []api.Expr{
		a, op(api.OpItem, a, lit(0)), op(api.OpDrop, a, lit(0)), op(api.OpDrop, a, lit(2)), op(api.OpDrop, op(api.OpDrop, a, lit(1)), lit(0)), op(api.OpConcat, a, a), op(api.OpConcat, a, op(api.OpList)), op(api.OpConcat, op(api.OpList), a),
		op(api.OpList, a, a), op(api.OpIf, cond(1), a, a), op(api.OpList, op(api.OpDrop, a, lit(0)), a, op(api.OpDrop, a, lit(1)), op(api.OpConcat, a, a)), op(api.OpConcat, op(api.OpDrop, a, lit(2)), op(api.OpDrop, a, lit(0))),
	} {
		want, _ := evalRead(e, binding())
		first, err := Eval(e, env)
		second, _ := Eval(e, env)
		overwrite(second)
		if err != api.OK || !sameValue(first, want) || !sameValue(env[0].Value, binding()[0].Value) {
			t.Fatalf("R2: Eval(%v) shares memory with an argument or with another result: %v, %v", e, first, env)
		}
		for i := range first.L {
			overwrite(first.L[i])
			for j := i + 1; j < len(first.L); j++ {
				if !sameValue(first.L[j], want.L[j]) {
					t.Fatalf("R2: two lists of Eval(%v) share memory: %v", e, first)
				}
			}
		}
	}
}

func TestMemoryOfTypes(t *testing.T) {
	three, two := func() api.Type { return typeWithin(3, intType) }, func() api.Type { return typeWithin(1, listType()) }
	a, b := three(), two()
	for _, x := range [][2]api.Type{{a, a}, {a, b}, {b, a}, {b, listType()}, {listType(), a}} {
		first, ok := Join(x[0], x[1])
		want, _ := joinRead(x[0], x[1])
		overwriteType(first)
		again, _ := Join(x[0], x[1])
		if !ok || !sameType(a, three()) || !sameType(b, two()) || !sameType(again, want) {
			t.Fatalf("R2: Join shares memory: %v, %v, %v", a, b, again)
		}
	}
	env := []api.Typing{{Name: "a", T: a}, {Name: "b", T: b}}
	for _, e := range []api.Expr{name("a"), op(api.OpIf, cond(1), name("a"), name("b")), op(api.OpList, name("a"), name("a")), op(api.OpItem, name("a"), lit(0)), op(api.OpDrop, name("b"), lit(0)), op(api.OpConcat, name("b"), name("a"))} {
		want, _ := typeRead(e, env)
		first, err := Type(e, env)
		if err != api.OK || !sameType(first, want) {
			t.Fatalf("P11.5: Type(%v) = %v, %d, want %v", e, first, err, want)
		}
		overwriteType(first)
		if !sameType(a, three()) || !sameType(b, two()) {
			t.Fatalf("R2: Type(%v) shares memory with a typing", e)
		}
	}
	v := seq(ints(1), seq())
	first, _ := TypeOf(v)
	overwriteType(first)
	if again, _ := TypeOf(v); !sameType(again, typeWithin(2, intType)) || !sameValue(v, seq(ints(1), seq())) {
		t.Errorf("R2: TypeOf has changed what it returns: %v", again)
	}
}

// TestArguments checks that an expression is not changed (R2).
func TestArguments(t *testing.T) {
	made := func() api.Expr {
		return op(api.OpIf, op(api.OpAnd, cond(1), op(api.OpLess, lit(1), lit(2))), op(api.OpDrop, op(api.OpConcat, name("ints"), op(api.OpList, lit(9))), lit(1)), name("empty"))
	}
	e := made()
	for range 2 {
		v, err := Eval(e, bindings())
		if err != api.OK || !sameValue(v, ints(1, 3, 9)) {
			t.Errorf("P11.4: Eval(%v) = %v, %d", e, v, err)
		}
		ty, err := Type(e, typings())
		if err != api.OK || !sameType(ty, listType(intType)) || Validate(e) != api.OK {
			t.Errorf("P11.5: Type(%v) = %v, %d", e, ty, err)
		}
	}
	if !sameExpr(e, made()) {
		t.Errorf("R2: an expression has become %v", e)
	}
}

func sameExpr(a, b api.Expr) bool {
	if a.Op != b.Op || a.N != b.N || a.S != b.S || len(a.Args) != len(b.Args) {
		return false
	}
	for i := range a.Args {
		if !sameExpr(a.Args[i], b.Args[i]) {
			return false
		}
	}
	return true
}

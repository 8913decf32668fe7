package expr

import (
	"math/big"
	"slices"
	"strconv"
	"strings"
	"testing"

	"widgetry/api"
)

// bindings are those of the tests.
func bindings() []api.Binding {
	return []api.Binding{
		{Name: "n", Value: str("an earlier one")}, {Name: "n", Value: num(7)}, {Name: "most", Value: num(api.MaxNumber)}, {Name: "yes", Value: flag(1)},
		{Name: "text", Value: str("a\u05D0\U0001F600")}, {Name: "ints", Value: seq(num(1), num(2), num(3))}, {Name: "empty", Value: seq()},
		{Name: "deep", Value: within(api.MaxDepth, num(1))}, {Name: "deeptext", Value: within(api.MaxDepth, str(""))}, {Name: "long", Value: str(strings.Repeat("\u00E4", api.MaxString/2))}, {Name: "full", Value: many(api.MaxKids, num(5))},
		{Name: "crowd", Value: crowd(api.MaxValues, num(0))}, {Name: "", Value: num(1)}, {Name: "no name", Value: num(1)},
	}
}

// run is a test of Eval with the bindings.
type run struct {
	e    api.Expr
	want api.Value
	err  api.Errno
}

func testRuns(t *testing.T, runs []run) {
	t.Helper()
	for _, x := range runs {
		if got, err := Eval(x.e, bindings()); !sameValue(got, x.want) || err != x.err {
			t.Errorf("P11.4: Eval(%v) = %v, %d, want %v, %d", x.e, got, err, x.want, x.err)
		}
	}
}

func fails(err api.Errno, l ...api.Expr) []run {
	var runs []run
	for _, e := range l {
		runs = append(runs, run{e, api.Value{}, err})
	}
	return runs
}

func ints(l ...int) api.Value {
	v := seq()
	for _, n := range l {
		v.L = append(v.L, num(n))
	}
	return v
}

// none is an expression of which each evaluation is an error that no operator returns.
func none() api.Expr { return name("missing") }

func TestLeaves(t *testing.T) {
	testRuns(t, []run{
		{lit(5), num(5), api.OK},
		{lit(-api.MaxNumber), num(-api.MaxNumber), api.OK},
		{cond(0), flag(0), api.OK},
		{cond(1), flag(1), api.OK},
		{word(""), str(""), api.OK},
		{word("\u00E4"), str("\u00E4"), api.OK},
		{name("n"), num(7), api.OK},
		{name("ints"), ints(1, 2, 3), api.OK},
		{name("crowd"), crowd(api.MaxValues, num(0)), api.OK},
		{none(), api.Value{}, api.ErrName},
		{name("N"), api.Value{}, api.ErrName},
	})
}

func TestCalculation(t *testing.T) {
	m := api.MaxNumber
	for _, x := range []struct{ op, a, b, want int }{
		{api.OpAdd, 2, 3, 5}, {api.OpAdd, -2, -3, -5}, {api.OpAdd, m, 0, m}, {api.OpAdd, -m, m, 0}, {api.OpAdd, m - 1, 1, m}, {api.OpAdd, 1 - m, -1, -m},
		{api.OpSub, 2, 3, -1}, {api.OpSub, 0, m, -m}, {api.OpSub, m, m, 0}, {api.OpSub, m - 1, -1, m},
		{api.OpMul, 6, -7, -42}, {api.OpMul, -6, -7, 42}, {api.OpMul, 0, m, 0}, {api.OpMul, m, 0, 0}, {api.OpMul, m, -1, -m}, {api.OpMul, 1 << 20, 1 << 20, m}, {api.OpMul, -1 << 20, 1 << 20, -m}, {api.OpMul, 3, m / 3, m - 1},
		{api.OpDiv, 7, 2, 3}, {api.OpDiv, -7, 2, -4}, {api.OpDiv, 7, -2, -4}, {api.OpDiv, -7, -2, 3}, {api.OpDiv, 6, -2, -3}, {api.OpDiv, 0, -5, 0}, {api.OpDiv, -m, -1, m}, {api.OpDiv, 1, m, 0}, {api.OpDiv, -1, m, -1},
		{api.OpMod, 7, 2, 1}, {api.OpMod, -7, 2, 1}, {api.OpMod, 7, -2, -1}, {api.OpMod, -7, -2, -1}, {api.OpMod, 6, -2, 0}, {api.OpMod, -1, m, m - 1}, {api.OpMod, 1, -m, 1 - m}, {api.OpMod, m, m, 0},
	} {
		testRuns(t, []run{{op(x.op, lit(x.a), lit(x.b)), num(x.want), api.OK}})
	}
	for _, x := range []struct{ op, a, b int }{
		{api.OpAdd, m, 1}, {api.OpAdd, -m, -1}, {api.OpAdd, m, m}, {api.OpSub, -m, 1}, {api.OpSub, m, -1}, {api.OpSub, m, -m},
		{api.OpMul, m, 2}, {api.OpMul, 2, -m}, {api.OpMul, m, m}, {api.OpMul, -m, m}, {api.OpMul, 1 << 20, 1<<20 + 1}, {api.OpMul, 1 << 32, 1 << 32}, {api.OpMul, -1 << 39, 1 << 25}, {api.OpMul, 3, m/3 + 1},
		{api.OpDiv, 1, 0}, {api.OpDiv, 0, 0}, {api.OpMod, 1, 0}, {api.OpMod, 0, 0},
	} {
		testRuns(t, fails(api.ErrRange, op(x.op, lit(x.a), lit(x.b))))
	}
	for _, x := range []struct{ a, b, want int }{{1, 2, 1}, {2, 1, 0}, {2, 2, 0}, {-m, m, 1}, {m, -m, 0}, {-1, 0, 1}} {
		testRuns(t, []run{{op(api.OpLess, lit(x.a), lit(x.b)), flag(x.want), api.OK}})
	}
}

// TestExactNumbers compares the operators of integers with exact integers.
func TestExactNumbers(t *testing.T) {
	m := api.MaxNumber
	l := []int{-m, 1 - m, -1 << 39, -1<<20 - 1, -1 << 20, 1 - 1<<20, 1<<20 - 1, 1 << 20, 1<<20 + 1, 1 << 32, 1 << 39, m - 1, m}
	for n := -20; n <= 20; n++ {
		l = append(l, n)
	}
	for _, a := range l {
		for _, b := range l {
			for o := api.OpAdd; o <= api.OpMod; o++ {
				want, err := exact(o, a, b)
				if got, e := Eval(op(o, lit(a), lit(b)), nil); e != err || e == api.OK && !sameValue(got, num(want)) {
					t.Errorf("P11.4: the operator %d of %d and %d is %v, %d, want %d, %d", o, a, b, got, e, want, err)
				}
			}
		}
	}
}

// exact calculates with integers without a limit.
func exact(op, a, b int) (int, api.Errno) {
	x, y, r := big.NewInt(int64(a)), big.NewInt(int64(b)), new(big.Int)
	if op >= api.OpDiv && b == 0 {
		return 0, api.ErrRange
	}
	switch op {
	case api.OpAdd:
		r.Add(x, y)
	case api.OpSub:
		r.Sub(x, y)
	case api.OpMul:
		r.Mul(x, y)
	default:
		// The quotient rounded down is what is left after the remainder that has the sign of the divisor.
		rest := new(big.Int).Rem(x, y)
		if rest.Sign() != 0 && rest.Sign() != y.Sign() {
			rest.Add(rest, y)
		}
		r.Set(rest)
		if op == api.OpDiv {
			r.Quo(r.Sub(x, rest), y)
		}
	}
	if r.CmpAbs(big.NewInt(api.MaxNumber)) > 0 {
		return 0, api.ErrRange
	}
	return int(r.Int64()), api.OK
}

func TestCalculationTypes(t *testing.T) {
	for o := api.OpAdd; o <= api.OpLess; o++ {
		for _, x := range []api.Expr{cond(1), word("1"), op(api.OpList), name("ints")} {
			testRuns(t, fails(api.ErrType, op(o, x, lit(1)), op(o, lit(1), x), op(o, x, x), op(o, x, lit(0))))
		}
		testRuns(t, fails(api.ErrName, op(o, none(), cond(1)), op(o, cond(1), none()), op(o, none(), lit(1)), op(o, lit(1), none())))
		testRuns(t, fails(api.ErrRange, op(o, op(api.OpDiv, lit(1), lit(0)), none()), op(o, name("text"), op(api.OpMod, lit(1), lit(0)))))
	}
}

func TestEqualOperator(t *testing.T) {
	testRuns(t, []run{
		{op(api.OpEqual, lit(1), lit(1)), flag(1), api.OK},
		{op(api.OpEqual, lit(1), lit(-1)), flag(0), api.OK},
		{op(api.OpEqual, cond(0), cond(0)), flag(1), api.OK},
		{op(api.OpEqual, cond(0), cond(1)), flag(0), api.OK},
		{op(api.OpEqual, word("a"), word("a")), flag(1), api.OK},
		{op(api.OpEqual, word("a"), word("A")), flag(0), api.OK},
		{op(api.OpEqual, name("ints"), op(api.OpList, lit(1), lit(2), lit(3))), flag(1), api.OK},
		{op(api.OpEqual, name("ints"), name("full")), flag(0), api.OK},
		{op(api.OpEqual, name("ints"), name("empty")), flag(0), api.OK},
		{op(api.OpEqual, name("empty"), op(api.OpList)), flag(1), api.OK},
		{op(api.OpEqual, op(api.OpList, name("empty")), op(api.OpList, name("ints"))), flag(0), api.OK},
		{op(api.OpEqual, name("deep"), name("empty")), flag(0), api.OK},
		{op(api.OpEqual, name("crowd"), name("crowd")), flag(1), api.OK},
	})
	testRuns(t, fails(api.ErrType,
		op(api.OpEqual, lit(1), cond(1)), op(api.OpEqual, word("1"), lit(1)), op(api.OpEqual, lit(1), name("ints")), op(api.OpEqual, name("empty"), word("")),
		op(api.OpEqual, name("ints"), op(api.OpList, word(""))), op(api.OpEqual, name("ints"), op(api.OpList, name("ints"))), op(api.OpEqual, name("ints"), op(api.OpList, name("empty"))), op(api.OpEqual, name("deep"), name("deeptext")),
	))
	testRuns(t, fails(api.ErrName, op(api.OpEqual, none(), none()), op(api.OpEqual, lit(1), none())))
}

func TestLogic(t *testing.T) {
	yes, no := cond(1), cond(0)
	testRuns(t, []run{
		{op(api.OpNot, yes), flag(0), api.OK},
		{op(api.OpNot, no), flag(1), api.OK},
		{op(api.OpAnd, no, none()), flag(0), api.OK},
		{op(api.OpAnd, no, lit(1)), flag(0), api.OK},
		{op(api.OpAnd, yes, no), flag(0), api.OK},
		{op(api.OpAnd, yes, name("yes")), flag(1), api.OK},
		{op(api.OpOr, yes, none()), flag(1), api.OK},
		{op(api.OpOr, yes, lit(0)), flag(1), api.OK},
		{op(api.OpOr, no, no), flag(0), api.OK},
		{op(api.OpOr, no, name("yes")), flag(1), api.OK},
		{op(api.OpIf, yes, lit(1), none()), num(1), api.OK},
		{op(api.OpIf, no, none(), word("a")), str("a"), api.OK},
		{op(api.OpIf, yes, name("ints"), lit(2)), ints(1, 2, 3), api.OK},
	})
	testRuns(t, fails(api.ErrType,
		op(api.OpNot, lit(1)), op(api.OpNot, word("true")), op(api.OpNot, name("empty")),
		op(api.OpAnd, lit(0), no), op(api.OpAnd, name("empty"), none()), op(api.OpAnd, yes, lit(1)), op(api.OpAnd, yes, word("")),
		op(api.OpOr, lit(1), yes), op(api.OpOr, word(""), none()), op(api.OpOr, no, lit(0)), op(api.OpOr, no, name("ints")),
		op(api.OpIf, lit(1), lit(1), lit(2)), op(api.OpIf, word(""), none(), none()), op(api.OpIf, name("empty"), lit(1), lit(2)),
	))
	testRuns(t, fails(api.ErrName,
		op(api.OpNot, none()), op(api.OpAnd, none(), no), op(api.OpAnd, yes, none()), op(api.OpOr, none(), yes), op(api.OpOr, no, none()),
		op(api.OpIf, none(), lit(1), lit(2)), op(api.OpIf, yes, none(), lit(2)), op(api.OpIf, no, lit(1), none()),
	))
}

func TestTexts(t *testing.T) {
	testRuns(t, []run{
		{op(api.OpLength, word("")), num(0), api.OK},
		{op(api.OpLength, name("text")), num(3), api.OK},
		{op(api.OpLength, name("long")), num(api.MaxString / 2), api.OK},
		{op(api.OpLength, word("\uFFFD\u0301")), num(2), api.OK},
		{op(api.OpLength, name("empty")), num(0), api.OK},
		{op(api.OpLength, name("ints")), num(3), api.OK},
		{op(api.OpLength, op(api.OpList, name("ints"))), num(1), api.OK},
		{op(api.OpLength, name("full")), num(api.MaxKids), api.OK},
		{op(api.OpShow, lit(0)), str("0"), api.OK},
		{op(api.OpShow, lit(-120)), str("-120"), api.OK},
		{op(api.OpShow, name("most")), str(strconv.Itoa(api.MaxNumber)), api.OK},
		{op(api.OpConcat, word("ab"), word("c")), str("abc"), api.OK},
		{op(api.OpConcat, word(""), word("")), str(""), api.OK},
		{op(api.OpConcat, word(""), name("long")), str(strings.Repeat("\u00E4", api.MaxString/2)), api.OK},
		{op(api.OpLength, op(api.OpConcat, word(strings.Repeat("a", 1000)), word(strings.Repeat("b", 1000)))), num(2000), api.OK},
	})
	testRuns(t, fails(api.ErrTooLong, op(api.OpConcat, word("a"), name("long")), op(api.OpConcat, name("long"), word("a")), op(api.OpConcat, op(api.OpConcat, name("long"), name("long")), none())))
	testRuns(t, fails(api.ErrType,
		op(api.OpLength, lit(1)), op(api.OpLength, cond(1)), op(api.OpShow, cond(1)), op(api.OpShow, word("1")), op(api.OpShow, name("empty")),
		op(api.OpConcat, word("a"), lit(1)), op(api.OpConcat, lit(1), lit(1)), op(api.OpConcat, cond(1), cond(1)), op(api.OpConcat, word(""), name("empty")), op(api.OpConcat, lit(1), name("ints")),
	))
	testRuns(t, fails(api.ErrName, op(api.OpLength, none()), op(api.OpShow, none()), op(api.OpConcat, none(), lit(1)), op(api.OpConcat, lit(1), none())))
}

func TestLists(t *testing.T) {
	testRuns(t, []run{
		{op(api.OpList), seq(), api.OK},
		{op(api.OpList, lit(1), name("n")), ints(1, 7), api.OK},
		{op(api.OpList, name("empty"), name("ints"), op(api.OpList)), seq(seq(), ints(1, 2, 3), seq()), api.OK},
		{copies(api.MaxKids, word("a")), many(api.MaxKids, str("a")), api.OK},
		{copies(9, name("full")), many(9, many(api.MaxKids, num(5))), api.OK},
		{op(api.OpConcat, name("empty"), name("empty")), seq(), api.OK},
		{op(api.OpConcat, name("ints"), name("empty")), ints(1, 2, 3), api.OK},
		{op(api.OpConcat, op(api.OpList, lit(5), lit(6)), name("ints")), ints(5, 6, 1, 2, 3), api.OK},
		{op(api.OpConcat, op(api.OpList, name("empty")), op(api.OpList, name("ints"))), seq(seq(), ints(1, 2, 3)), api.OK},
		{op(api.OpConcat, name("deep"), name("empty")), within(api.MaxDepth, num(1)), api.OK},
		{op(api.OpConcat, copies(60, lit(1)), copies(40, lit(1))), many(api.MaxKids, num(1)), api.OK},
	})
	testRuns(t, fails(api.ErrType,
		op(api.OpList, lit(1), cond(1)), op(api.OpList, lit(1), name("empty")), op(api.OpList, name("ints"), op(api.OpList, word(""))), op(api.OpList, op(api.OpList), name("ints"), op(api.OpList, op(api.OpList))), op(api.OpList, name("deep"), name("deeptext")),
		op(api.OpConcat, name("ints"), op(api.OpList, word(""))), op(api.OpConcat, name("ints"), word("")), op(api.OpConcat, name("empty"), lit(1)), op(api.OpConcat, op(api.OpList, name("ints")), name("ints")), op(api.OpConcat, name("ints"), op(api.OpList, name("empty"))),
		op(api.OpConcat, name("full"), op(api.OpList, word(""))), op(api.OpList, name("crowd"), lit(1)),
	))
	testRuns(t, fails(api.ErrTooLong,
		op(api.OpConcat, name("full"), op(api.OpList, lit(1))), op(api.OpConcat, op(api.OpList, lit(1)), name("full")), op(api.OpList, name("crowd")), op(api.OpConcat, name("crowd"), op(api.OpList, name("ints"))), copies(10, name("full")),
		op(api.OpLength, op(api.OpConcat, name("full"), name("full"))),
	))
	testRuns(t, fails(api.ErrDepth, op(api.OpList, name("deep")), op(api.OpList, name("empty"), name("deep")), op(api.OpLength, op(api.OpList, name("deep")))))
	testRuns(t, fails(api.ErrName, op(api.OpList, lit(1), none(), cond(1)), op(api.OpList, lit(1), cond(1), none()), op(api.OpConcat, lit(1), none())))
}

// TestFirstOfErrors examines results with several errors: Check decides which one comes first.
func TestFirstOfErrors(t *testing.T) {
	// Each wide one contains 92 values, the deep one is too deep in a list.
	env := []api.Binding{{Name: "wide", Value: seq(many(90, seq()))}, {Name: "deep", Value: within(api.MaxDepth, num(0))}}
	wide := slices.Repeat([]api.Expr{name("wide")}, 11)
	for _, x := range []struct {
		name string
		l    []api.Expr
		want api.Errno
	}{
		{"too many values before one that is too deep", append(wide[:11:11], name("deep")), api.ErrTooLong},
		{"too many values after one that is too deep", append([]api.Expr{name("deep")}, wide...), api.ErrDepth},
		{"many values before one that is too deep", append(wide[:10:10], name("deep")), api.ErrDepth},
		{"too many values", wide, api.ErrTooLong},
		{"many values", wide[:10], api.OK},
	} {
		if _, got := Eval(op(api.OpList, x.l...), env); got != x.want {
			t.Errorf("P11.4: a list of %s: %d, want %d", x.name, got, x.want)
		}
	}
}

func TestItems(t *testing.T) {
	testRuns(t, []run{
		{op(api.OpItem, name("ints"), lit(0)), num(1), api.OK},
		{op(api.OpItem, name("ints"), lit(2)), num(3), api.OK},
		{op(api.OpItem, op(api.OpList, name("empty"), name("ints")), lit(0)), seq(), api.OK},
		{op(api.OpItem, name("deep"), lit(0)), within(api.MaxDepth-1, num(1)), api.OK},
		{op(api.OpItem, name("full"), lit(api.MaxKids-1)), num(5), api.OK},
		{op(api.OpDrop, name("ints"), lit(0)), ints(2, 3), api.OK},
		{op(api.OpDrop, name("ints"), lit(1)), ints(1, 3), api.OK},
		{op(api.OpDrop, name("ints"), lit(2)), ints(1, 2), api.OK},
		{op(api.OpDrop, op(api.OpList, word("")), lit(0)), seq(), api.OK},
		{op(api.OpDrop, name("deep"), lit(0)), seq(), api.OK},
	})
	for _, o := range []int{api.OpItem, api.OpDrop} {
		testRuns(t, fails(api.ErrRange, op(o, name("ints"), lit(3)), op(o, name("ints"), lit(-1)), op(o, name("ints"), name("most")), op(o, name("empty"), lit(0)), op(o, name("ints"), op(api.OpSub, lit(0), name("most")))))
		testRuns(t, fails(api.ErrType, op(o, name("ints"), cond(0)), op(o, name("ints"), name("ints")), op(o, name("text"), lit(0)), op(o, lit(0), name("ints")), op(o, name("text"), lit(9)), op(o, name("empty"), word(""))))
		testRuns(t, fails(api.ErrName, op(o, none(), cond(1)), op(o, lit(1), none()), op(o, name("empty"), none())))
	}
}

func TestEvalErrors(t *testing.T) {
	wrong := []api.Binding{{Name: "a", Value: num(1)}, {Name: "b", Value: seq(num(1), str(""))}, {Name: "c", Value: api.Value{}}}
	bound := func(n int) []api.Binding { return slices.Repeat([]api.Binding{{Name: "a", Value: num(3)}}, n) }
	for _, x := range []struct {
		name string
		e    api.Expr
		env  []api.Binding
		want api.Errno
	}{
		{"an expression that is not valid", op(api.OpAdd, none(), name("?")), nil, api.ErrName},
		{"an expression and a value that are not valid", op(99), wrong, api.ErrKind},
		{"an expression that is not valid, and too many bindings", lit(api.MaxNumber + 1), bound(1001), api.ErrRange},
		{"too deep", nots(api.MaxDepth, cond(1)), nil, api.ErrDepth},
		{"as many bindings as possible", name("a"), bound(1000), api.OK},
		{"too many bindings", name("a"), bound(1001), api.ErrTooLong},
		{"too many bindings, one of them wrong", lit(1), append(bound(1000), wrong...), api.ErrTooLong},
		{"too many bindings, and an operator that fails", none(), bound(1001), api.ErrTooLong},
		{"the first wrong value", lit(1), wrong, api.ErrType},
		{"a wrong value, and an operator that fails", none(), wrong[2:], api.ErrKind},
		{"a wrong value of a binding that does not count", name("c"), append(wrong[2:], bound(1)...), api.ErrKind},
		{"the other order", lit(1), []api.Binding{wrong[2], wrong[1]}, api.ErrKind},
		{"the last of many values", lit(1), append(bound(999), wrong[1]), api.ErrType},
	} {
		v, got := Eval(x.e, x.env)
		if got != x.want || got != api.OK && !sameValue(v, api.Value{}) {
			t.Errorf("P11.4: Eval of %s: %v, %d, want %d", x.name, v, got, x.want)
		}
	}
}

// TestLastBinding: bindings and typings with equal names.
func TestLastBinding(t *testing.T) {
	env := []api.Binding{{Name: "a", Value: num(1)}, {Name: "b", Value: num(2)}, {Name: "a", Value: str("x")}, {Name: "a", Value: flag(1)}, {Name: "b", Value: num(3)}, {Name: "c", Value: num(4)}}
	typings := make([]api.Typing, len(env))
	for i, x := range env {
		typings[i].Name = x.Name
		typings[i].T, _ = TypeOf(x.Value)
	}
	for s, want := range map[string]api.Value{"a": flag(1), "b": num(3), "c": num(4)} {
		if got, e := Eval(name(s), env); !sameValue(got, want) || e != api.OK {
			t.Errorf("P11.4: the variable %s is %v, %d", s, got, e)
		}
		wanted, _ := TypeOf(want)
		if got, e := Type(name(s), typings); !sameType(got, wanted) || e != api.OK {
			t.Errorf("P11.5: the variable %s has the type %v, %d", s, got, e)
		}
	}
}

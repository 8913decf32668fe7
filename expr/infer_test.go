package expr

import (
	"slices"
	"testing"

	"widgetry/api"
)

// typings are those of the tests.
func typings() []api.Typing {
	return []api.Typing{
		{Name: "n", T: textType}, {Name: "n", T: intType}, {Name: "yes", T: boolType}, {Name: "text", T: textType}, {Name: "ints", T: listType(intType)}, {Name: "texts", T: listType(textType)}, {Name: "empty", T: listType()},
		{Name: "lists", T: listType(listType())}, {Name: "intlists", T: listType(listType(intType))}, {Name: "deep", T: typeWithin(api.MaxDepth, intType)}, {Name: "deeptext", T: typeWithin(api.MaxDepth, textType)},
		{Name: "almost", T: typeWithin(api.MaxDepth-1, intType)}, {Name: "deepempty", T: typeWithin(api.MaxDepth-1, listType())}, {Name: "", T: intType},
	}
}

func testTypes(t *testing.T, want api.Type, err api.Errno, l ...api.Expr) {
	t.Helper()
	for _, e := range l {
		if got, gotErr := Type(e, typings()); !sameType(got, want) || gotErr != err {
			t.Errorf("P11.5: Type(%v) = %v, %d, want %v, %d", e, got, gotErr, want, err)
		}
	}
}

func TestTypes(t *testing.T) {
	n, yes, text, ints, empty := name("n"), name("yes"), name("text"), name("ints"), name("empty")
	testTypes(t, intType, api.OK,
		lit(1), n, op(api.OpAdd, n, lit(1)), op(api.OpSub, n, n), op(api.OpMul, n, n), op(api.OpDiv, n, lit(0)), op(api.OpMod, n, n), op(api.OpLength, text), op(api.OpLength, ints), op(api.OpLength, empty),
		op(api.OpIf, yes, n, n), op(api.OpItem, ints, n), op(api.OpItem, op(api.OpItem, name("intlists"), n), n),
	)
	testTypes(t, boolType, api.OK,
		cond(0), yes, op(api.OpLess, n, n), op(api.OpEqual, text, text), op(api.OpEqual, ints, empty), op(api.OpEqual, empty, empty), op(api.OpEqual, name("lists"), name("intlists")), op(api.OpEqual, name("deep"), empty),
		op(api.OpNot, yes), op(api.OpAnd, yes, yes), op(api.OpOr, yes, yes), op(api.OpIf, yes, yes, yes),
	)
	testTypes(t, textType, api.OK, word(""), text, op(api.OpShow, n), op(api.OpConcat, text, text), op(api.OpIf, yes, text, text), op(api.OpItem, name("texts"), n))
	testTypes(t, listType(), api.OK, op(api.OpList), empty, op(api.OpConcat, empty, empty), op(api.OpDrop, empty, n), op(api.OpItem, name("lists"), n), op(api.OpIf, yes, empty, op(api.OpList)))
	testTypes(t, listType(intType), api.OK,
		op(api.OpList, n), op(api.OpList, n, n, n), ints, op(api.OpConcat, ints, empty), op(api.OpConcat, empty, ints), op(api.OpDrop, ints, n), op(api.OpIf, yes, empty, ints), op(api.OpIf, yes, ints, empty), op(api.OpItem, name("intlists"), n),
	)
	testTypes(t, listType(listType(intType)), api.OK,
		op(api.OpList, ints), op(api.OpList, empty, ints), op(api.OpList, ints, empty), op(api.OpConcat, name("lists"), name("intlists")), op(api.OpConcat, name("intlists"), empty), op(api.OpDrop, name("intlists"), n), op(api.OpIf, yes, name("lists"), name("intlists")),
	)
	testTypes(t, listType(listType()), api.OK, op(api.OpList, empty), op(api.OpList, empty, empty), op(api.OpConcat, name("lists"), empty), op(api.OpDrop, name("lists"), n))
	testTypes(t, typeWithin(api.MaxDepth, intType), api.OK,
		op(api.OpList, name("almost")), name("deep"), op(api.OpIf, yes, name("deep"), name("deepempty")), op(api.OpConcat, name("deepempty"), name("deep")), op(api.OpList, op(api.OpItem, name("deep"), n)),
	)
	testTypes(t, typeWithin(api.MaxDepth-1, intType), api.OK, op(api.OpItem, name("deep"), n))
}

func TestTypeErrors(t *testing.T) {
	n, yes, text, ints, empty := name("n"), name("yes"), name("text"), name("ints"), name("empty")
	for _, x := range []api.Expr{yes, text, ints, empty} {
		for o := api.OpAdd; o <= api.OpLess; o++ {
			testTypes(t, api.Type{}, api.ErrType, op(o, n, x), op(o, x, n), op(o, x, x))
		}
		testTypes(t, api.Type{}, api.ErrType, op(api.OpShow, x), op(api.OpItem, ints, x), op(api.OpDrop, ints, x), op(api.OpEqual, n, x), op(api.OpEqual, x, n), op(api.OpList, n, n, x), op(api.OpIf, yes, n, x), op(api.OpIf, yes, x, n))
	}
	for _, x := range []api.Expr{n, text, ints, empty} {
		testTypes(t, api.Type{}, api.ErrType, op(api.OpNot, x), op(api.OpAnd, x, yes), op(api.OpAnd, yes, x), op(api.OpOr, x, yes), op(api.OpOr, yes, x), op(api.OpAnd, cond(0), x), op(api.OpOr, cond(1), x), op(api.OpIf, x, n, n))
	}
	for _, x := range []api.Expr{n, yes} {
		testTypes(t, api.Type{}, api.ErrType, op(api.OpLength, x), op(api.OpConcat, x, x), op(api.OpConcat, x, text), op(api.OpConcat, empty, x), op(api.OpItem, x, n), op(api.OpDrop, x, n))
	}
	testTypes(t, api.Type{}, api.ErrType,
		op(api.OpConcat, text, ints), op(api.OpConcat, ints, name("texts")), op(api.OpConcat, ints, name("lists")), op(api.OpEqual, ints, name("texts")), op(api.OpEqual, ints, name("lists")), op(api.OpIf, yes, ints, name("texts")), op(api.OpIf, cond(1), n, text),
		op(api.OpItem, text, n), op(api.OpDrop, text, n), op(api.OpItem, empty, n), op(api.OpItem, op(api.OpList), lit(0)), op(api.OpItem, op(api.OpItem, name("lists"), n), n),
		op(api.OpList, ints, name("texts")), op(api.OpList, empty, ints, name("lists")), op(api.OpList, name("deep"), name("deeptext")), op(api.OpList, name("deep"), n),
	)
	testTypes(t, api.Type{}, api.ErrDepth, op(api.OpList, name("deep")), op(api.OpList, name("deepempty")), op(api.OpList, empty, name("deep")), op(api.OpList, name("deepempty"), name("deep")), op(api.OpLength, op(api.OpList, name("deep"))))
	testTypes(t, api.Type{}, api.ErrName, none(), name("N"), name("m"), op(api.OpNot, none()))
}

// TestOrderOfTypeErrors: operands are examined before the expression itself, also those that Eval skips.
func TestOrderOfTypeErrors(t *testing.T) {
	wrong, deep := op(api.OpNot, lit(1)), op(api.OpList, name("deep"))
	two := []int{api.OpAdd, api.OpSub, api.OpMul, api.OpDiv, api.OpMod, api.OpLess, api.OpEqual, api.OpAnd, api.OpOr, api.OpConcat, api.OpItem, api.OpDrop, api.OpList}
	for _, o := range two {
		for _, x := range []api.Expr{lit(1), cond(0), cond(1), word("")} {
			testTypes(t, api.Type{}, api.ErrName, op(o, x, none()), op(o, none(), x), op(o, none(), wrong), op(o, none(), deep))
			testTypes(t, api.Type{}, api.ErrDepth, op(o, x, deep), op(o, deep, none()), op(o, deep, wrong))
		}
		testTypes(t, api.Type{}, api.ErrType, op(o, wrong, none()), op(o, wrong, deep), op(o, cond(0), wrong), op(o, cond(1), wrong))
	}
	for _, c := range []api.Expr{cond(0), cond(1), lit(1)} {
		testTypes(t, api.Type{}, api.ErrName, op(api.OpIf, c, none(), lit(1)), op(api.OpIf, c, lit(1), none()), op(api.OpIf, c, none(), wrong))
		testTypes(t, api.Type{}, api.ErrDepth, op(api.OpIf, c, deep, none()), op(api.OpIf, c, lit(1), deep))
		testTypes(t, api.Type{}, api.ErrType, op(api.OpIf, c, wrong, none()), op(api.OpIf, c, word(""), wrong))
	}
	testTypes(t, api.Type{}, api.ErrName, op(api.OpIf, none(), wrong, deep), op(api.OpList, lit(1), cond(1), none()))
	testTypes(t, api.Type{}, api.ErrKind, op(api.OpIf, none(), wrong, api.Expr{}))
}

func TestTypings(t *testing.T) {
	bad := []api.Type{
		{}, {Kind: 5}, {Kind: -1}, {Kind: api.ValueInt, Of: []api.Type{intType}}, {Kind: api.ValueBool, Of: []api.Type{{}}}, {Kind: api.ValueText, Of: []api.Type{intType}},
		listType(intType, intType), listType(api.Type{}), listType(listType(intType, intType)), typeWithin(api.MaxDepth+1, intType), typeWithin(api.MaxDepth, listType()),
	}
	good := func(n int) []api.Typing { return slices.Repeat([]api.Typing{{Name: "a", T: intType}}, n) }
	for _, b := range bad {
		wrong := api.Typing{Name: "b", T: b}
		for _, x := range []struct {
			name string
			e    api.Expr
			env  []api.Typing
			want api.Errno
		}{
			{"a type that is not valid", lit(1), []api.Typing{wrong}, api.ErrKind},
			{"a type that does not count", name("a"), append([]api.Typing{{Name: "a", T: b}}, good(1)...), api.ErrKind},
			{"the last one of many", name("a"), append(good(999), wrong), api.ErrKind},
			{"too many typings, and a type that is not valid", lit(1), append(good(1000), wrong), api.ErrTooLong},
			{"a type that is not valid, and no variable", none(), []api.Typing{wrong}, api.ErrKind},
			{"a type and an expression that are not valid", name("?"), []api.Typing{wrong}, api.ErrName},
		} {
			if got, e := Type(x.e, x.env); e != x.want || !sameType(got, api.Type{}) {
				t.Errorf("P11.5: Type with %s (%v): %v, %d, want %d", x.name, b, got, e, x.want)
			}
		}
	}
	if got, e := Type(name("a"), good(1000)); e != api.OK || !sameType(got, intType) {
		t.Errorf("P11.5: Type with as many typings as possible: %v, %d", got, e)
	}
	for _, e := range []api.Expr{lit(1), name("a"), none()} {
		if _, err := Type(e, good(1001)); err != api.ErrTooLong {
			t.Errorf("P11.5: Type of %v with too many typings: %d", e, err)
		}
	}
	if _, err := Type(lit(api.MaxNumber+1), good(1001)); err != api.ErrRange {
		t.Errorf("P11.5: Type of a wrong expression with too many typings: %d", err)
	}
}

// TestExamples are the expressions of the document's section Examples.
func TestExamples(t *testing.T) {
	few := op(api.OpIf, op(api.OpLess, name("n"), lit(2)), word("few"), word("many"))
	if got, e := Type(few, []api.Typing{{Name: "n", T: intType}}); e != api.OK || !sameType(got, textType) {
		t.Errorf("P11.5: example 4 has the type %v, %d", got, e)
	}
	for n, want := range map[int]string{1: "few", 2: "many"} {
		if got, e := Eval(few, []api.Binding{{Name: "n", Value: num(n)}}); e != api.OK || !sameValue(got, str(want)) {
			t.Errorf("P11.4: example 4 with %d is %v, %d", n, got, e)
		}
	}
}

package expr

import (
	"fmt"
	"math/rand/v2"
	"slices"
	"testing"
	"unicode/utf8"

	"widgetry/api"
)

// The functions of this file that end in Read follow the sentences of chapter 11 one by one. They use that the operators of literals have the numbers of the kinds of their values.

func validRead(t api.Type, lists int) bool {
	switch t.Kind {
	case api.ValueInt, api.ValueBool, api.ValueText:
		return len(t.Of) == 0
	case api.ValueList:
		return lists < 16 && (len(t.Of) == 0 || len(t.Of) == 1 && validRead(t.Of[0], lists+1))
	}
	return false
}

func joinRead(a, b api.Type) (api.Type, bool) {
	if !validRead(a, 0) || !validRead(b, 0) || a.Kind != b.Kind {
		return api.Type{}, false
	}
	if a.Kind != api.ValueList {
		return a, true
	}
	if len(a.Of) == 0 {
		return b, true
	}
	if len(b.Of) == 0 {
		return a, true
	}
	of, ok := joinRead(a.Of[0], b.Of[0])
	if !ok {
		return api.Type{}, false
	}
	return listType(of), true
}

// joinAllRead returns the common type of types, from the first one to the last one, if there is one.
func joinAllRead(l []api.Type) ([]api.Type, bool) {
	var all []api.Type
	for i, t := range l {
		if i == 0 {
			all = []api.Type{t}
			continue
		}
		j, ok := joinRead(all[0], t)
		if !ok {
			return nil, false
		}
		all = []api.Type{j}
	}
	return all, true
}

// valueRead examines a value within that many lists after met others.
func valueRead(v api.Value, lists int, met *int) (api.Type, api.Errno) {
	*met++
	isInt, isBool, isText, isList := v.Kind == api.ValueInt, v.Kind == api.ValueBool, v.Kind == api.ValueText, v.Kind == api.ValueList
	if isList && lists+1 > 16 {
		return api.Type{}, api.ErrDepth
	}
	if !isInt && !isBool && !isText && !isList || v.N != 0 && !isInt && !isBool || v.S != "" && !isText || len(v.L) != 0 && !isList {
		return api.Type{}, api.ErrKind
	}
	if isInt && (v.N < -1<<40 || v.N > 1<<40) || isBool && v.N != 0 && v.N != 1 {
		return api.Type{}, api.ErrRange
	}
	if isText && len(v.S) > 2000 || isList && len(v.L) > 100 || *met > 1000 {
		return api.Type{}, api.ErrTooLong
	}
	if isText && !utf8.ValidString(v.S) {
		return api.Type{}, api.ErrSyntax
	}
	var types []api.Type
	for _, x := range v.L {
		t, e := valueRead(x, lists+1, met)
		if e != api.OK {
			return api.Type{}, e
		}
		types = append(types, t)
	}
	of, ok := joinAllRead(types)
	if !ok {
		return api.Type{}, api.ErrType
	}
	return api.Type{Kind: v.Kind, Of: of}, api.OK
}

func typeOfRead(v api.Value) (api.Type, api.Errno) {
	met := 0
	return valueRead(v, 0, &met)
}

func isNameRead(s string) bool {
	letters := "abcdefghijklmnopqrstuvwxyzABCDEFGHIJKLMNOPQRSTUVWXYZ"
	for i, b := range []byte(s) {
		if !slices.Contains([]byte(letters), b) && (i == 0 || !slices.Contains([]byte("0123456789-_"), b)) {
			return false
		}
	}
	return len(s) >= 1 && len(s) <= 24
}

func validateRead(e api.Expr, depth int, met *int) api.Errno {
	*met++
	if depth > 16 {
		return api.ErrDepth
	}
	if *met > 400 {
		return api.ErrTooLong
	}
	least, most := counts(e.Op)
	isInt, isBool, isText, isVar := e.Op == api.OpInt, e.Op == api.OpBool, e.Op == api.OpText, e.Op == api.OpVar
	if len(e.Args) < least || len(e.Args) > most || e.N != 0 && !isInt && !isBool || e.S != "" && !isText && !isVar {
		return api.ErrKind
	}
	if isInt && (e.N < -1<<40 || e.N > 1<<40) || isBool && e.N != 0 && e.N != 1 {
		return api.ErrRange
	}
	if isText && len(e.S) > 2000 {
		return api.ErrTooLong
	}
	if isText && !utf8.ValidString(e.S) {
		return api.ErrSyntax
	}
	if isVar && !isNameRead(e.S) {
		return api.ErrName
	}
	for _, x := range e.Args {
		if err := validateRead(x, depth+1, met); err != api.OK {
			return err
		}
	}
	return api.OK
}

// evalRead evaluates a valid expression.
func evalRead(e api.Expr, env []api.Binding) (api.Value, api.Errno) {
	var args []api.Value
	fail := func(err api.Errno) (api.Value, api.Errno) { return api.Value{}, err }
	for i, x := range e.Args {
		if i > 0 && (e.Op == api.OpAnd || e.Op == api.OpOr || e.Op == api.OpIf) {
			if args[0].Kind != api.ValueBool {
				return fail(api.ErrType)
			}
			if e.Op == api.OpAnd && args[0].N == 0 || e.Op == api.OpOr && args[0].N == 1 {
				return args[0], api.OK
			}
			if e.Op == api.OpIf && i != 2-args[0].N {
				args = append(args, api.Value{})
				continue
			}
		}
		v, err := evalRead(x, env)
		if err != api.OK {
			return fail(err)
		}
		args = append(args, v)
	}
	v, err := applyRead(e, args, env)
	if err != api.OK {
		return fail(err)
	}
	if _, err := typeOfRead(v); err != api.OK {
		return fail(err)
	}
	return v, api.OK
}

func applyRead(e api.Expr, args []api.Value, env []api.Binding) (api.Value, api.Errno) {
	fail := func(err api.Errno) (api.Value, api.Errno) { return api.Value{}, err }
	kinds, types := make([]int, 3), []api.Type{}
	for i, x := range args {
		kinds[i%3] = x.Kind
		t, _ := typeOfRead(x)
		types = append(types, t)
	}
	_, joined := joinAllRead(types)
	bit := map[bool]int{true: 1}
	switch e.Op {
	case api.OpInt, api.OpBool:
		return api.Value{Kind: e.Op, N: e.N}, api.OK
	case api.OpText:
		return str(e.S), api.OK
	case api.OpVar:
		for i := len(env) - 1; i >= 0; i-- {
			if env[i].Name == e.S {
				return env[i].Value, api.OK
			}
		}
		return fail(api.ErrName)
	case api.OpAdd, api.OpSub, api.OpMul, api.OpDiv, api.OpMod, api.OpLess:
		if kinds[0] != api.ValueInt || kinds[1] != api.ValueInt {
			return fail(api.ErrType)
		}
		if e.Op == api.OpLess {
			return flag(bit[args[0].N < args[1].N]), api.OK
		}
		n, err := exact(e.Op, args[0].N, args[1].N)
		return num(n), err
	case api.OpEqual:
		if !joined {
			return fail(api.ErrType)
		}
		return flag(bit[sameValue(args[0], args[1])]), api.OK
	case api.OpNot:
		if kinds[0] != api.ValueBool {
			return fail(api.ErrType)
		}
		return flag(1 - args[0].N), api.OK
	case api.OpAnd, api.OpOr:
		if kinds[1] != api.ValueBool {
			return fail(api.ErrType)
		}
		return args[1], api.OK
	case api.OpIf:
		return args[2-args[0].N], api.OK
	}
	return applyToListsRead(e.Op, args, kinds, joined)
}

func applyToListsRead(op int, args []api.Value, kinds []int, joined bool) (api.Value, api.Errno) {
	fail := func(err api.Errno) (api.Value, api.Errno) { return api.Value{}, err }
	switch op {
	case api.OpConcat:
		if kinds[0] == api.ValueText && kinds[1] == api.ValueText {
			return str(args[0].S + args[1].S), api.OK
		}
		if kinds[0] == api.ValueList && kinds[1] == api.ValueList && joined {
			return seq(append(slices.Clone(args[0].L), args[1].L...)...), api.OK
		}
		return fail(api.ErrType)
	case api.OpLength:
		switch kinds[0] {
		case api.ValueText:
			return num(len([]rune(args[0].S))), api.OK
		case api.ValueList:
			return num(len(args[0].L)), api.OK
		}
		return fail(api.ErrType)
	case api.OpShow:
		if kinds[0] != api.ValueInt {
			return fail(api.ErrType)
		}
		return str(fmt.Sprintf("%d", args[0].N)), api.OK
	case api.OpList:
		if !joined {
			return fail(api.ErrType)
		}
		return seq(args...), api.OK
	}
	if kinds[0] != api.ValueList || kinds[1] != api.ValueInt {
		return fail(api.ErrType)
	}
	if args[1].N < 0 || args[1].N > len(args[0].L)-1 {
		return fail(api.ErrRange)
	}
	if op == api.OpItem {
		return args[0].L[args[1].N], api.OK
	}
	return seq(slices.Delete(slices.Clone(args[0].L), args[1].N, args[1].N+1)...), api.OK
}

// typeRead returns the type of a valid expression.
func typeRead(e api.Expr, env []api.Typing) (api.Type, api.Errno) {
	var args []api.Type
	for _, x := range e.Args {
		t, err := typeRead(x, env)
		if err != api.OK {
			return api.Type{}, err
		}
		args = append(args, t)
	}
	// are reports whether the operands have these kinds.
	are := func(kinds ...int) bool {
		return slices.EqualFunc(args[:len(kinds)], kinds, func(t api.Type, kind int) bool { return t.Kind == kind })
	}
	_, joined := joinAllRead(args)
	ok, result := true, api.Type{}
	switch e.Op {
	case api.OpInt, api.OpBool, api.OpText:
		result.Kind = e.Op
	case api.OpVar:
		for i := len(env) - 1; i >= 0; i-- {
			if env[i].Name == e.S {
				return env[i].T, api.OK
			}
		}
		return api.Type{}, api.ErrName
	case api.OpAdd, api.OpSub, api.OpMul, api.OpDiv, api.OpMod:
		ok, result = are(api.ValueInt, api.ValueInt), intType
	case api.OpLess:
		ok, result = are(api.ValueInt, api.ValueInt), boolType
	case api.OpEqual:
		ok, result = joined, boolType
	case api.OpNot:
		ok, result = are(api.ValueBool), boolType
	case api.OpAnd, api.OpOr:
		ok, result = are(api.ValueBool, api.ValueBool), boolType
	case api.OpIf:
		branches, same := joinAllRead(args[1:])
		if ok = are(api.ValueBool) && same; ok {
			result = branches[0]
		}
	default:
		return typeOfListsRead(e.Op, args, are)
	}
	if !ok {
		return api.Type{}, api.ErrType
	}
	return result, api.OK
}

func typeOfListsRead(op int, args []api.Type, are func(kinds ...int) bool) (api.Type, api.Errno) {
	all, joined := joinAllRead(args)
	ok, result := true, api.Type{}
	switch op {
	case api.OpConcat:
		if ok = joined && (are(api.ValueText, api.ValueText) || are(api.ValueList, api.ValueList)); ok {
			result = all[0]
		}
	case api.OpLength:
		ok, result = are(api.ValueText) || are(api.ValueList), intType
	case api.OpShow:
		ok, result = are(api.ValueInt), textType
	case api.OpList:
		ok, result = joined, listType(all...)
		if ok && !validRead(result, 0) {
			return api.Type{}, api.ErrDepth
		}
	case api.OpItem:
		if ok = are(api.ValueList, api.ValueInt) && len(args[0].Of) == 1; ok {
			result = args[0].Of[0]
		}
	case api.OpDrop:
		ok, result = are(api.ValueList, api.ValueInt), args[0]
	}
	if !ok {
		return api.Type{}, api.ErrType
	}
	return result, api.OK
}

// someTypes are valid types and others.
func someTypes() []api.Type {
	l := []api.Type{intType, boolType, textType, listType(), {}, {Kind: 5}, {Kind: api.ValueInt, Of: []api.Type{intType}}, listType(intType, intType)}
	for _, t := range slices.Clone(l) {
		for _, n := range []int{1, 2, 3, 14, 15, 16, 17} {
			l = append(l, typeWithin(n, t))
		}
	}
	return l
}

func TestJoinByChapter(t *testing.T) {
	for _, a := range someTypes() {
		for _, b := range someTypes() {
			want, wantOK := joinRead(a, b)
			if got, ok := Join(a, b); ok != wantOK || !sameType(got, want) {
				t.Errorf("P11.1: Join(%v, %v) = %v, %t, want %v, %t", a, b, got, ok, want, wantOK)
			}
		}
	}
}

// maker makes values and expressions by chance, the same in each run.
type maker struct{ *rand.Rand }

func newMaker() maker { return maker{rand.New(rand.NewPCG(11, 11))} }

func pickOf[T any](m maker, l []T) T { return l[m.IntN(len(l))] }

// value returns a value, which is valid or nearly so.
func (m maker) value(lists int) api.Value {
	switch k := m.IntN(12); {
	case k == 0 && m.IntN(8) == 0:
		return pickOf(m, []api.Value{{}, num(1<<40 + 1), flag(2), str("\xFF"), str(string(make([]byte, 2001))), {Kind: 3, N: 1}, {Kind: 1, S: "a"}, {Kind: 4, S: "a"}, {Kind: 2, L: []api.Value{num(1)}}, many(101, num(0)), within(16, seq())})
	case k < 3:
		return num(m.IntN(4) - 1)
	case k == 3:
		return flag(m.IntN(2))
	case k == 4:
		return str(pickOf(m, []string{"", "a", "\u05D0b"}))
	case k == 5:
		return within(m.IntN(18), num(0))
	case lists == 0:
		return seq()
	}
	v, length := seq(), m.IntN(4)
	x := m.value(lists - 1)
	for range length {
		if m.IntN(4) == 0 {
			x = m.value(lists - 1)
		}
		v.L = append(v.L, x)
	}
	return v
}

func TestValuesByChapter(t *testing.T) {
	m, seen := newMaker(), map[api.Errno]int{}
	last := num(0)
	for range 100000 {
		v := m.value(3)
		want, wantErr := typeOfRead(v)
		seen[wantErr]++
		if got, e := TypeOf(v); e != wantErr || !sameType(got, want) || Check(v) != wantErr {
			t.Fatalf("P11.2: TypeOf(%v) = %v, %d, want %v, %d", v, got, e, want, wantErr)
		}
		_, lastErr := typeOfRead(last)
		if got, want := Equal(v, last), wantErr == api.OK && lastErr == api.OK && sameValue(v, last); got != want {
			t.Fatalf("P11.2: Equal(%v, %v) = %t", v, last, got)
		}
		last = v
	}
	for _, e := range []api.Errno{api.OK, api.ErrDepth, api.ErrKind, api.ErrRange, api.ErrTooLong, api.ErrSyntax, api.ErrType} {
		if seen[e] < 100 {
			t.Errorf("P11.2: the values have the error %d only %d times", e, seen[e])
		}
	}
}

func testByChapter(t *testing.T, e api.Expr, env []api.Binding, types []api.Typing) (api.Errno, api.Errno) {
	t.Helper()
	value, evalErr := evalRead(e, env)
	got, err := Eval(e, env)
	if err != evalErr || !sameValue(got, value) {
		t.Fatalf("P11.4: Eval(%v, %v) = %v, %d, want %v, %d", e, env, got, err, value, evalErr)
	}
	want, typeErr := typeRead(e, types)
	gotType, err := Type(e, types)
	if err != typeErr || !sameType(gotType, want) {
		t.Fatalf("P11.5: Type(%v, %v) = %v, %d, want %v, %d", e, types, gotType, err, want, typeErr)
	}
	if typeErr == api.OK {
		testSoundness(t, e, env, gotType)
	}
	return evalErr, typeErr
}

// testSoundness: an expression with a type has a value that fits, or an error that types cannot foresee.
func testSoundness(t *testing.T, e api.Expr, env []api.Binding, want api.Type) {
	t.Helper()
	v, err := Eval(e, env)
	if err != api.OK {
		if err != api.ErrRange && err != api.ErrTooLong && err != api.ErrDepth {
			t.Fatalf("P11.6: Eval(%v, %v) has the error %d, but Type is %v", e, env, err, want)
		}
		return
	}
	got, err := TypeOf(v)
	if _, ok := Join(got, want); !ok || err != api.OK {
		t.Fatalf("P11.6: Eval(%v, %v) is %v, but Type is %v", e, env, v, want)
	}
}

// leaves are expressions with values of many types.
func leaves() []api.Expr {
	one := op(api.OpList, lit(1))
	return []api.Expr{
		lit(0), lit(1), lit(-7), lit(api.MaxNumber), cond(0), cond(1), word(""), word("a\u00E4"), op(api.OpList), one, op(api.OpList, word("")), op(api.OpList, op(api.OpList)), op(api.OpList, one), op(api.OpList, op(api.OpList), one),
		name("long"), name("full"), name("crowd"), name("deep"), name("deepempty"), name("deeptext"), none(),
	}
}

func leafBindings() ([]api.Binding, []api.Typing) {
	env := append(bindings(), api.Binding{Name: "deepempty", Value: within(api.MaxDepth-1, seq())})
	var types []api.Typing
	for _, x := range env {
		t, _ := TypeOf(x.Value)
		types = append(types, api.Typing{Name: x.Name, T: t})
	}
	return env, types
}

// TestShortExpressions examines all operators with all leaves.
func TestShortExpressions(t *testing.T) {
	env, types := leafBindings()
	for o := range 22 {
		least, most := counts(o)
		for n := max(least, 0); n <= min(most, 3); n++ {
			if n == 0 && (o == api.OpInt || o == api.OpBool || o == api.OpText || o == api.OpVar) {
				continue
			}
			forAll(n, nil, func(args []api.Expr) { testByChapter(t, op(o, args...), env, types) })
		}
	}
}

// forAll calls visit with all lists of n leaves.
func forAll(n int, l []api.Expr, visit func([]api.Expr)) {
	if n == 0 {
		visit(slices.Clone(l))
		return
	}
	for _, x := range leaves() {
		forAll(n-1, append(l, x), visit)
	}
}

// expr returns an expression that probably has a type like t.
func (m maker) expr(depth int, t api.Type) api.Expr {
	if m.IntN(40) == 0 {
		t = pickOf(m, []api.Type{intType, boolType, textType, listType(intType), listType(), listType(listType(textType))})
	}
	if depth == 0 || m.IntN(5) == 0 {
		return m.leaf(t)
	}
	sub := func(t api.Type) api.Expr { return m.expr(depth-1, t) }
	lists := listType(t)
	switch m.IntN(8) {
	case 0:
		return op(api.OpIf, sub(boolType), sub(t), sub(t))
	case 1:
		return op(api.OpItem, sub(lists), m.leaf(intType))
	}
	switch t.Kind {
	case api.ValueInt:
		if m.IntN(4) == 0 {
			return op(api.OpLength, sub(pickOf(m, []api.Type{textType, listType(intType)})))
		}
		return op(api.OpAdd+m.IntN(5), sub(intType), sub(intType))
	case api.ValueBool:
		x := pickOf(m, []api.Type{intType, textType, listType(textType), boolType})
		return pickOf(m, []api.Expr{op(api.OpLess, sub(intType), sub(intType)), op(api.OpEqual, sub(x), sub(x)), op(api.OpNot, sub(boolType)), op(api.OpAnd, sub(boolType), sub(boolType)), op(api.OpOr, sub(boolType), sub(boolType))})
	case api.ValueText:
		return pickOf(m, []api.Expr{op(api.OpConcat, sub(textType), sub(textType)), op(api.OpShow, sub(intType))})
	}
	e := op(api.OpList)
	for range m.IntN(4) {
		if len(t.Of) == 1 {
			e.Args = append(e.Args, sub(t.Of[0]))
		}
	}
	return pickOf(m, []api.Expr{e, e, op(api.OpConcat, sub(t), sub(t)), op(api.OpDrop, sub(t), m.leaf(intType))})
}

// leaf returns a leaf that probably has the type t.
func (m maker) leaf(t api.Type) api.Expr {
	switch t.Kind {
	case api.ValueInt:
		return pickOf(m, []api.Expr{lit(0), lit(0), lit(1), lit(2), lit(-3), name("n")})
	case api.ValueBool:
		return pickOf(m, []api.Expr{cond(0), cond(1), name("yes")})
	case api.ValueText:
		return pickOf(m, []api.Expr{word("a"), word(""), name("text")})
	}
	if len(t.Of) == 1 && t.Of[0].Kind == api.ValueInt {
		return pickOf(m, []api.Expr{name("ints"), op(api.OpList), name("empty")})
	}
	return pickOf(m, []api.Expr{op(api.OpList), name("empty"), name("any"), name("other")})
}

// TestLongExpressions examines expressions by chance, most of which have a type.
func TestLongExpressions(t *testing.T) {
	m, evals, types := newMaker(), map[api.Errno]int{}, map[api.Errno]int{}
	named := slices.DeleteFunc(bindings(), func(b api.Binding) bool {
		return !slices.Contains([]string{"n", "yes", "text", "ints", "empty"}, b.Name)
	})
	for range 60000 {
		env := slices.Clone(named)
		for _, s := range []string{"any", "other"} {
			v := m.value(2)
			if _, err := typeOfRead(v); err == api.OK {
				env = append(env, api.Binding{Name: s, Value: v})
			}
		}
		var typing []api.Typing
		for _, x := range env {
			u, _ := TypeOf(x.Value)
			typing = append(typing, api.Typing{Name: x.Name, T: u})
		}
		e := m.expr(4, pickOf(m, []api.Type{intType, boolType, textType, listType(intType), listType(listType(textType))}))
		met := 0
		if err := validateRead(e, 1, &met); err != Validate(e) {
			t.Fatalf("P11.3: Validate(%v) = %d, want %d", e, Validate(e), err)
		} else if err == api.OK {
			evalErr, typeErr := testByChapter(t, e, env, typing)
			evals[evalErr]++
			types[typeErr]++
		}
	}
	if evals[api.OK] < 1000 || evals[api.ErrRange] < 100 || evals[api.ErrType] < 100 || types[api.OK] < 10000 || types[api.ErrType] < 100 {
		t.Errorf("the expressions are too much alike: %v, %v", evals, types)
	}
}

// TestWrongExpressions examines expressions of which a part is wrong.
func TestWrongExpressions(t *testing.T) {
	m, seen := newMaker(), map[api.Errno]int{}
	for range 60000 {
		e := m.expr(3, pickOf(m, []api.Type{intType, boolType, textType, listType(intType)}))
		for range m.IntN(3) {
			m.spoil(&e)
		}
		met := 0
		want := validateRead(e, 1, &met)
		seen[want]++
		_, evalErr := Eval(e, nil)
		_, typeErr := Type(e, nil)
		if got := Validate(e); got != want || want != api.OK && (evalErr != want || typeErr != want) {
			t.Fatalf("P11.3: Validate(%v) = %d, want %d; Eval and Type: %d, %d", e, got, want, evalErr, typeErr)
		}
	}
	for _, err := range []api.Errno{api.OK, api.ErrDepth, api.ErrKind, api.ErrRange, api.ErrTooLong, api.ErrSyntax, api.ErrName} {
		if seen[err] < 100 {
			t.Errorf("P11.3: the expressions have the error %d only %d times", err, seen[err])
		}
	}
}

// spoil changes a part of e.
func (m maker) spoil(e *api.Expr) {
	for len(e.Args) > 0 && m.IntN(3) > 0 {
		e.Args = slices.Clone(e.Args)
		e = &e.Args[m.IntN(len(e.Args))]
	}
	switch m.IntN(9) {
	case 0:
		e.Op = m.IntN(24) - 1
	case 1:
		e.N = pickOf(m, []int{1, 2, -1, 1<<40 + 1, -1<<40 - 1, 1 << 40})
	case 2:
		e.S = pickOf(m, []string{"a", "?", "\xFF"})
	case 3:
		e.Args = append(slices.Clone(e.Args), lit(0))
	case 4:
		*e = nots(13+m.IntN(4), *e)
	case 5:
		*e = mass(390+m.IntN(12), *e)
	case 6:
		*e = word(pickOf(m, []string{"\xFF", string(make([]byte, 2000)), string(make([]byte, 2001))}))
	case 7:
		*e = pickOf(m, []api.Expr{lit(1<<40 + 1), cond(2), cond(-1), lit(-1 << 40)})
	case 8:
		*e = name(pickOf(m, []string{"", "9", "a.b", "ok"}))
	}
}

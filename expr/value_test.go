package expr

import (
	"slices"
	"strings"
	"testing"

	"widgetry/api"
)

func num(n int) api.Value          { return api.Value{Kind: api.ValueInt, N: n} }
func flag(n int) api.Value         { return api.Value{Kind: api.ValueBool, N: n} }
func str(s string) api.Value       { return api.Value{Kind: api.ValueText, S: s} }
func seq(l ...api.Value) api.Value { return api.Value{Kind: api.ValueList, L: l} }

// within returns v in that many lists.
func within(lists int, v api.Value) api.Value {
	for range lists {
		v = seq(v)
	}
	return v
}

// many returns a list of n times v.
func many(n int, v api.Value) api.Value {
	return seq(slices.Repeat([]api.Value{v}, n)...)
}

// crowd returns a value that contains n values, with itself, the last of them v; n is at least 912.
func crowd(n int, v api.Value) api.Value {
	l := slices.Repeat([]api.Value{many(100, num(0))}, 9)
	last := many(n-912, num(0))
	last.L = append(last.L, v)
	return seq(append(l, last)...)
}

var (
	intType  = api.Type{Kind: api.ValueInt}
	boolType = api.Type{Kind: api.ValueBool}
	textType = api.Type{Kind: api.ValueText}
)

func listType(of ...api.Type) api.Type { return api.Type{Kind: api.ValueList, Of: of} }

// typeWithin returns a type in that many lists.
func typeWithin(lists int, t api.Type) api.Type {
	for range lists {
		t = listType(t)
	}
	return t
}

func sameType(a, b api.Type) bool {
	return a.Kind == b.Kind && slices.EqualFunc(a.Of, b.Of, sameType)
}

func sameValue(a, b api.Value) bool {
	return a.Kind == b.Kind && a.N == b.N && a.S == b.S && slices.EqualFunc(a.L, b.L, sameValue)
}

func TestName(t *testing.T) {
	letters := "abcdefghijklmnopqrstuvwxyzABCDEFGHIJKLMNOPQRSTUVWXYZ"
	for b := range 256 {
		first, later := string([]byte{byte(b)}), string([]byte{'q', byte(b)})
		if got, want := Name(first), strings.Contains(letters, first); got != want {
			t.Errorf("chapter 11: Name(%q) = %t", first, got)
		}
		if got, want := Name(later), strings.Contains(letters+"0123456789-_", first); got != want {
			t.Errorf("chapter 11: Name(%q) = %t", later, got)
		}
		for at := 1; at < api.MaxName; at++ {
			s := []byte(strings.Repeat("m", api.MaxName))
			s[at] = byte(b)
			if Name(string(s)) != Name(later) {
				t.Errorf("chapter 11: Name(%q) = %t", s, !Name(later))
			}
		}
	}
	for s, want := range map[string]bool{
		"": false, "a": true, "press-me_2": true, "A1": true, "1A": false, "-a": false, "_": false, "a b": false, "a.b": false, "\u00E4": false, "a\u00E4": false, " a": false, "a ": false,
		strings.Repeat("a", api.MaxName): true, strings.Repeat("a", api.MaxName+1): false,
	} {
		if Name(s) != want {
			t.Errorf("chapter 11: Name(%q) = %t", s, !want)
		}
	}
}

func TestJoin(t *testing.T) {
	empty, ints, texts := listType(), listType(intType), listType(textType)
	deepest, deepestEmpty := typeWithin(api.MaxDepth, intType), typeWithin(api.MaxDepth-1, empty)
	for _, x := range []struct {
		a, b, want api.Type
		ok         bool
	}{
		{intType, intType, intType, true},
		{boolType, boolType, boolType, true},
		{textType, textType, textType, true},
		{intType, boolType, api.Type{}, false},
		{boolType, textType, api.Type{}, false},
		{intType, ints, api.Type{}, false},
		{intType, empty, api.Type{}, false},
		{empty, empty, empty, true},
		{empty, ints, ints, true},
		{empty, listType(ints), listType(ints), true},
		{ints, ints, ints, true},
		{ints, texts, api.Type{}, false},
		{ints, listType(ints), api.Type{}, false},
		{ints, listType(empty), api.Type{}, false},
		{listType(empty), empty, listType(empty), true},
		{listType(empty), listType(ints), listType(ints), true},
		{listType(empty), listType(listType(texts)), listType(listType(texts)), true},
		{listType(ints), listType(texts), api.Type{}, false},
		{deepest, deepest, deepest, true},
		{deepest, empty, deepest, true},
		{deepest, deepestEmpty, deepest, true},
		{deepest, typeWithin(api.MaxDepth, textType), api.Type{}, false},
		{typeWithin(api.MaxDepth-1, intType), deepestEmpty, api.Type{}, false},
		{empty, typeWithin(api.MaxDepth+1, intType), api.Type{}, false},
		{empty, typeWithin(api.MaxDepth, empty), api.Type{}, false},
		{typeWithin(api.MaxDepth+1, intType), typeWithin(api.MaxDepth+1, intType), api.Type{}, false},
		{api.Type{}, api.Type{}, api.Type{}, false},
		{api.Type{}, intType, api.Type{}, false},
		{api.Type{}, empty, api.Type{}, false},
		{listType(api.Type{}), empty, api.Type{}, false},
		{api.Type{Kind: 5}, api.Type{Kind: 5}, api.Type{}, false},
		{api.Type{Kind: -1}, api.Type{Kind: -1}, api.Type{}, false},
		{api.Type{Kind: api.ValueInt, Of: []api.Type{intType}}, intType, api.Type{}, false},
		{api.Type{Kind: api.ValueText, Of: []api.Type{intType}}, api.Type{Kind: api.ValueText, Of: []api.Type{intType}}, api.Type{}, false},
		{listType(intType, intType), listType(intType, intType), api.Type{}, false},
		{listType(intType, intType), empty, api.Type{}, false},
		{api.Type{Kind: api.ValueInt, Of: []api.Type{}}, intType, intType, true},
	} {
		for range 2 {
			if got, ok := Join(x.a, x.b); !sameType(got, x.want) || ok != x.ok {
				t.Errorf("P11.1: Join(%v, %v) = %v, %t, want %v, %t", x.a, x.b, got, ok, x.want, x.ok)
			}
			x.a, x.b = x.b, x.a
		}
	}
}

func TestCheck(t *testing.T) {
	long, broken := strings.Repeat("a", api.MaxString+1), "a\xFF"
	wrong := num(api.MaxNumber + 1)
	for _, x := range []struct {
		name string
		v    api.Value
		want api.Errno
	}{
		{"an int", num(0), api.OK},
		{"the greatest int", num(api.MaxNumber), api.OK},
		{"the least int", num(-api.MaxNumber), api.OK},
		{"an int that is too great", wrong, api.ErrRange},
		{"an int that is too small", num(-api.MaxNumber - 1), api.ErrRange},
		{"false", flag(0), api.OK},
		{"true", flag(1), api.OK},
		{"a bool of 2", flag(2), api.ErrRange},
		{"a bool of -1", flag(-1), api.ErrRange},
		{"no text", str(""), api.OK},
		{"a text", str("a\u00E4\u05D0\U0001F600\x00\n"), api.OK},
		{"U+FFFD", str("\uFFFD"), api.OK},
		{"a long text", str(long[1:]), api.OK},
		{"a long text of runes of two bytes", str(strings.Repeat("\u00E4", api.MaxString/2)), api.OK},
		{"a text that is too long", str(long), api.ErrTooLong},
		{"a text that is too long in bytes", str(strings.Repeat("\u00E4", api.MaxString/2) + "a"), api.ErrTooLong},
		{"no valid UTF-8", str(broken), api.ErrSyntax},
		{"half a rune", str("\u00E4"[:1]), api.ErrSyntax},
		{"a surrogate", str("\xED\xA0\x80"), api.ErrSyntax},
		{"an overlong rune", str("\xC0\x80"), api.ErrSyntax},
		{"too long and no valid UTF-8", str(long + broken), api.ErrTooLong},
		{"no elements", seq(), api.OK},
		{"elements that are not nil", api.Value{Kind: api.ValueList, L: []api.Value{}}, api.OK},
		{"ints", seq(num(1), num(2)), api.OK},
		{"lists of ints", seq(seq(), seq(num(1)), seq()), api.OK},
		{"an empty list and a list of empty lists", seq(seq(), seq(seq()), seq(seq(num(1)))), api.OK},
		{"a long list", many(api.MaxKids, num(1)), api.OK},
		{"a list that is too long", many(api.MaxKids+1, num(1)), api.ErrTooLong},
		{"a list that is too long, of what is no value", many(api.MaxKids+1, api.Value{}), api.ErrTooLong},
		{"an int and a bool", seq(num(1), flag(1)), api.ErrType},
		{"an int and a list", seq(num(1), seq()), api.ErrType},
		{"lists of ints and of texts", seq(seq(), seq(num(1)), seq(), seq(str(""))), api.ErrType},
		{"a list of ints and a list of empty lists", seq(seq(num(1)), seq(seq())), api.ErrType},
		{"a list with a list that has no type", seq(seq(num(1), str("")), wrong), api.ErrType},
		{"no common type, and an element that is wrong", seq(num(1), str(""), wrong), api.ErrRange},
		{"the first of two errors", seq(num(1), str(broken), wrong), api.ErrSyntax},
		{"an error in an element before one", seq(seq(str(long)), api.Value{}), api.ErrTooLong},
	} {
		if got := Check(x.v); got != x.want {
			t.Errorf("P11.2: Check of %s: %d, want %d", x.name, got, x.want)
		}
	}
}

func TestCheckKinds(t *testing.T) {
	long, broken := strings.Repeat("a", api.MaxString+1), "a\xFF"
	wrong := num(api.MaxNumber + 1)
	for _, x := range []struct {
		name string
		v    api.Value
		want api.Errno
	}{
		{"no kind", api.Value{}, api.ErrKind},
		{"the kind 5", api.Value{Kind: 5}, api.ErrKind},
		{"the kind -1", api.Value{Kind: -1}, api.ErrKind},
		{"an int with a text", api.Value{Kind: api.ValueInt, S: "a"}, api.ErrKind},
		{"an int with a list", api.Value{Kind: api.ValueInt, L: []api.Value{num(1)}}, api.ErrKind},
		{"an int with no elements", api.Value{Kind: api.ValueInt, N: 7, L: []api.Value{}}, api.OK},
		{"a bool with a text", api.Value{Kind: api.ValueBool, S: "a"}, api.ErrKind},
		{"a bool with a list", api.Value{Kind: api.ValueBool, L: []api.Value{num(1)}}, api.ErrKind},
		{"a text with a number", api.Value{Kind: api.ValueText, S: "a", N: 1}, api.ErrKind},
		{"a text with a list", api.Value{Kind: api.ValueText, S: "a", L: []api.Value{num(1)}}, api.ErrKind},
		{"a list with a number", api.Value{Kind: api.ValueList, N: 1}, api.ErrKind},
		{"a list with a text", api.Value{Kind: api.ValueList, S: "a"}, api.ErrKind},
		{"an int with a text that is too great", api.Value{Kind: api.ValueInt, N: api.MaxNumber + 1, S: "a"}, api.ErrKind},
		{"a bool with a text that is too great", api.Value{Kind: api.ValueBool, N: 2, S: "a"}, api.ErrKind},
		{"a text with a number that is too long", api.Value{Kind: api.ValueText, N: 1, S: long}, api.ErrKind},
		{"a text with a number that is no valid UTF-8", api.Value{Kind: api.ValueText, N: 1, S: broken}, api.ErrKind},
		{"a list with a number that is too long", api.Value{Kind: api.ValueList, N: 1, L: many(api.MaxKids+1, num(1)).L}, api.ErrKind},
		{"a list with a number that contains what is no value", api.Value{Kind: api.ValueList, N: 1, L: []api.Value{wrong}}, api.ErrKind},
	} {
		if got := Check(x.v); got != x.want {
			t.Errorf("P11.2: Check of %s: %d, want %d", x.name, got, x.want)
		}
	}
}

func TestCheckDepth(t *testing.T) {
	broken := api.Value{Kind: api.ValueList, N: 1, L: make([]api.Value, api.MaxKids+1)}
	for _, x := range []struct {
		name string
		v    api.Value
		want api.Errno
	}{
		{"an int in all lists", within(api.MaxDepth, num(1)), api.OK},
		{"an empty list in all lists but one", within(api.MaxDepth-1, seq()), api.OK},
		{"an int in too many lists", within(api.MaxDepth+1, num(1)), api.ErrDepth},
		{"an empty list in all lists", within(api.MaxDepth, seq()), api.ErrDepth},
		{"a wrong list in all lists but one", within(api.MaxDepth-1, broken), api.ErrKind},
		{"a wrong list in all lists", within(api.MaxDepth, broken), api.ErrDepth},
		{"no value in all lists", within(api.MaxDepth, api.Value{L: []api.Value{seq()}}), api.ErrKind},
		{"a wrong int in all lists", within(api.MaxDepth, num(api.MaxNumber+1)), api.ErrRange},
		{"an earlier error", seq(num(api.MaxNumber+1), within(api.MaxDepth, num(1))), api.ErrRange},
		{"two deep lists", seq(within(api.MaxDepth-1, num(1)), within(api.MaxDepth-1, seq())), api.ErrDepth},
		{"two lists that are not too deep", seq(within(api.MaxDepth-1, num(1)), within(api.MaxDepth-2, seq())), api.OK},
		{"two deep lists without a common type", seq(within(api.MaxDepth-1, num(1)), within(api.MaxDepth-1, str(""))), api.ErrType},
	} {
		if got := Check(x.v); got != x.want {
			t.Errorf("P11.2: Check of %s: %d, want %d", x.name, got, x.want)
		}
	}
}

func TestCheckCount(t *testing.T) {
	// The last value of a crowd is within two lists.
	for _, x := range []struct {
		name string
		v    api.Value
		want api.Errno
	}{
		{"all values", crowd(api.MaxValues, num(1)), api.OK},
		{"one value too many", crowd(api.MaxValues+1, num(1)), api.ErrTooLong},
		{"all values, the last one wrong", crowd(api.MaxValues, num(api.MaxNumber+1)), api.ErrRange},
		{"all values, the last one no value", crowd(api.MaxValues, api.Value{}), api.ErrKind},
		{"all values, the last one a list", crowd(api.MaxValues, seq()), api.ErrType},
		{"one value too many, which is none", crowd(api.MaxValues+1, api.Value{}), api.ErrKind},
		{"one value too many, which is too great", crowd(api.MaxValues+1, num(api.MaxNumber+1)), api.ErrRange},
		{"one value too many, which is no valid UTF-8", crowd(api.MaxValues+1, str("\xFF")), api.ErrTooLong},
		{"one value too many, of another type", crowd(api.MaxValues+1, str("a")), api.ErrTooLong},
		{"one value too many, in a list", crowd(api.MaxValues, seq(num(0))), api.ErrTooLong},
		{"one value too many, in a list, which is none", crowd(api.MaxValues, seq(api.Value{})), api.ErrKind},
		{"too many values, too deep", crowd(api.MaxValues-api.MaxDepth+3, within(api.MaxDepth-1, num(0))), api.ErrDepth},
		{"too many values, not too deep", crowd(api.MaxValues-api.MaxDepth+3, within(api.MaxDepth-2, num(0))), api.ErrTooLong},
		{"all values, deep", crowd(api.MaxValues-api.MaxDepth+2, within(api.MaxDepth-2, num(0))), api.ErrType},
		{"two halves", seq(crowd(950, num(0)), crowd(950, num(0))), api.ErrTooLong},
	} {
		if got := Check(x.v); got != x.want {
			t.Errorf("P11.2: Check of %s: %d, want %d", x.name, got, x.want)
		}
	}
	// Each call counts from the beginning.
	if Check(crowd(api.MaxValues, num(1))) != api.OK {
		t.Error("P11.2: a second value counts with the first one")
	}
}

func TestTypeOf(t *testing.T) {
	for _, x := range []struct {
		v    api.Value
		want api.Type
		e    api.Errno
	}{
		{num(3), intType, api.OK},
		{flag(1), boolType, api.OK},
		{str("a"), textType, api.OK},
		{seq(), listType(), api.OK},
		{seq(num(1), num(2)), listType(intType), api.OK},
		{seq(seq(), seq()), listType(listType()), api.OK},
		{seq(seq(), seq(str("")), seq()), listType(listType(textType)), api.OK},
		{seq(seq(seq()), seq(), seq(seq(), seq(flag(0)))), listType(listType(listType(boolType))), api.OK},
		{within(api.MaxDepth, flag(1)), typeWithin(api.MaxDepth, boolType), api.OK},
		{within(api.MaxDepth+1, flag(1)), api.Type{}, api.ErrDepth},
		{seq(num(1), str("")), api.Type{}, api.ErrType},
		{num(api.MaxNumber + 1), api.Type{}, api.ErrRange},
		{api.Value{}, api.Type{}, api.ErrKind},
		{str("\xFF"), api.Type{}, api.ErrSyntax},
		{many(api.MaxKids+1, num(1)), api.Type{}, api.ErrTooLong},
	} {
		if got, e := TypeOf(x.v); !sameType(got, x.want) || e != x.e {
			t.Errorf("P11.2: TypeOf(%v) = %v, %d, want %v, %d", x.v, got, e, x.want, x.e)
		}
	}
}

func TestEqual(t *testing.T) {
	values := []api.Value{
		num(0), num(1), num(-1), flag(0), flag(1), str(""), str("a"), str("A"), str("a "), seq(), seq(num(0)), seq(num(0), num(0)), seq(num(0), num(1)), seq(num(1), num(0)),
		seq(str("")), seq(seq()), seq(seq(), seq()), seq(seq(), seq(num(1))), seq(seq(num(1)), seq()), seq(seq(num(1)), seq(num(1))),
	}
	for i, a := range values {
		for j, b := range values {
			if got := Equal(a, b); got != (i == j) {
				t.Errorf("P11.2: Equal(%v, %v) = %t", a, b, got)
			}
		}
	}
	empty := api.Value{Kind: api.ValueList, L: []api.Value{}}
	if !Equal(empty, seq()) || !Equal(seq(seq()), seq(empty)) || !Equal(api.Value{Kind: api.ValueInt, L: []api.Value{}}, num(0)) {
		t.Error("P11.2: an empty list and a nil list are not equal")
	}
	for _, v := range []api.Value{{}, num(api.MaxNumber + 1), flag(2), str("\xFF"), seq(num(1), str("")), within(api.MaxDepth+1, num(1)), crowd(api.MaxValues+1, num(1))} {
		if Equal(v, v) || Equal(v, num(0)) || Equal(num(0), v) {
			t.Errorf("P11.2: %v is Equal to something, but not valid", v)
		}
	}
	if !Equal(crowd(api.MaxValues, num(1)), crowd(api.MaxValues, num(1))) || Equal(crowd(api.MaxValues, num(1)), crowd(api.MaxValues, num(2))) {
		t.Error("P11.2: Equal of values with as many values as there can be")
	}
}

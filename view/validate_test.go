package view

import (
	"fmt"
	"slices"
	"strings"
	"testing"

	"widgetry/api"
)

func num(n int) api.Value { return api.Value{Kind: api.ValueInt, N: n} }

func truth(n int) api.Value { return api.Value{Kind: api.ValueBool, N: n} }

func text(s string) api.Value { return api.Value{Kind: api.ValueText, S: s} }

func seq(l ...api.Value) api.Value { return api.Value{Kind: api.ValueList, L: l} }

func group(kids ...api.View) api.View { return api.View{Kind: api.KindGroup, Kids: kids} }

func keyed(key string, kids ...api.View) api.View {
	return api.View{Kind: api.KindGroup, Key: key, Kids: kids}
}

func attrs(l ...api.Attr) api.View { return api.View{Kind: api.KindLabel, Attrs: l} }

func actions(l ...api.Action) api.View { return api.View{Kind: api.KindButton, Actions: l} }

func attr(name string, v api.Value) api.Attr { return api.Attr{Name: name, Value: v} }

func action(event, handler string, args ...api.Value) api.Action {
	return api.Action{Event: event, Instance: "/", Handler: handler, Args: args}
}

// named returns what make gives for the names x100, x101 and so on, which are in ascending order.
func named[T any](n int, make func(s string) T) []T {
	var l []T
	for i := range n {
		l = append(l, make(fmt.Sprint("x", 100+i)))
	}
	return l
}

// groups returns n groups without children.
func groups(n int) []api.View { return slices.Repeat([]api.View{group()}, n) }

// nested returns v within so many groups that it is nested n deep.
func nested(n int, v api.View) api.View {
	for range n - 1 {
		v = group(v)
	}
	return v
}

// large returns a view that contains n groups more.
func large(n int) api.View {
	var l []api.View
	for n > 0 {
		kids := min(n-1, api.MaxKids)
		l = append(l, group(groups(kids)...))
		n -= kids + 1
	}
	return group(l...)
}

func testValidate(t *testing.T, what string, v api.View, want api.Errno) {
	t.Helper()
	if got := Validate(v); got != want {
		t.Errorf("P14.1: Validate of %s: %d, want %d", what, got, want)
	}
	if inside := nested(3, v); want != api.OK && want != api.ErrDepth && Validate(inside) != want {
		t.Errorf("P14.1: Validate of %s inside others: %d, want %d", what, Validate(inside), want)
	}
	tree, e := Build(v, 1)
	if e != want || e != api.OK && (tree.Root != 0 || tree.Next != 0 || len(tree.Nodes) != 0) {
		t.Errorf("P14.3: Build of %s: %d, want %d", what, e, want)
	}
	if _, e := Build(v, 0); want != api.OK && e != want {
		t.Errorf("P14.3: Build of %s with 0: %d, want %d", what, e, want)
	}
	if Equal(v, v) != (want == api.OK) {
		t.Errorf("P14.3: Equal of %s and itself: %t", what, Equal(v, v))
	}
}

func TestKey(t *testing.T) {
	for b := range 256 {
		c := string([]byte{byte(b)})
		want := strings.Contains("abcdefghijklmnopqrstuvwxyzABCDEFGHIJKLMNOPQRSTUVWXYZ0123456789-_", c)
		for _, s := range []string{c, c + "a", "a" + c, "a" + c + "a", "0-" + c + "_"} {
			if Key(s) != want {
				t.Errorf("Key(%q) = %t", s, !want)
			}
		}
	}
	for n := range 60 {
		if s := strings.Repeat("k", n); Key(s) != (n <= 24) {
			t.Errorf("Key of %d bytes: %t", n, Key(s))
		}
	}
	if Key("é") || Key("a b") || !Key("") {
		t.Error("Key of é, a blank, or nothing")
	}
}

func TestKindsAndKeys(t *testing.T) {
	for kind := -3; kind < 20; kind++ {
		want := api.ErrKind
		if 1 <= kind && kind <= 13 {
			want = api.OK
		}
		testValidate(t, fmt.Sprint("the kind ", kind), api.View{Kind: kind}, want)
	}
	for _, s := range []string{" ", "a b", "é", "a/b", "#", "a.b", strings.Repeat("k", 25)} {
		testValidate(t, fmt.Sprintf("the key %q", s), keyed(s), api.ErrName)
	}
	for _, s := range []string{"", "0", "-", "_9", strings.Repeat("k", 24)} {
		testValidate(t, fmt.Sprintf("the key %q", s), keyed(s), api.OK)
	}
	testValidate(t, "nothing", api.View{}, api.ErrKind)
}

func TestSizes(t *testing.T) {
	testValidate(t, "16 views that are nested", nested(16, group()), api.OK)
	testValidate(t, "17 views that are nested", nested(17, group()), api.ErrDepth)
	testValidate(t, "16 views that are nested behind others", group(groups(5)[0], nested(15, group())), api.OK)
	testValidate(t, "17 views that are nested behind others", group(groups(5)[0], nested(16, group())), api.ErrDepth)
	testValidate(t, "17 views that are nested, the last of which is wrong", nested(17, api.View{}), api.ErrDepth)
	testValidate(t, "400 views", large(399), api.OK)
	testValidate(t, "401 views", large(400), api.ErrTooLong)
	deep := large(384)
	deep.Kids[3] = nested(15, group())
	testValidate(t, "many views that are nested", deep, api.OK)
	testValidate(t, "100 children", group(groups(100)...), api.OK)
	testValidate(t, "101 children", group(groups(101)...), api.ErrTooLong)
	attribute := func(s string) api.Attr { return attr(s, num(1)) }
	testValidate(t, "24 attributes", attrs(named(24, attribute)...), api.OK)
	testValidate(t, "25 attributes", attrs(named(25, attribute)...), api.ErrTooLong)
	press := func(s string) api.Action { return action(s, "go") }
	testValidate(t, "24 actions", actions(named(24, press)...), api.OK)
	testValidate(t, "25 actions", actions(named(25, press)...), api.ErrTooLong)
	both := actions(named(24, press)...)
	both.Attrs, both.Kids = named(24, attribute), groups(100)
	testValidate(t, "as much of everything as possible", both, api.OK)
}

func TestAttributes(t *testing.T) {
	one := num(1)
	for _, x := range []struct {
		what string
		l    []api.Attr
		want api.Errno
	}{
		{"attributes of all types", []api.Attr{attr("a", one), attr("b", truth(1)), attr("c", text("x")), attr("d", seq(one, one))}, api.OK},
		{"attributes in the order of their bytes", []api.Attr{attr("B", one), attr("a", one), attr("a-", one), attr("a0", one), attr("aB", one), attr("a_", one), attr("aa", one), attr("b", one)}, api.OK},
		{"an attribute with a long name", []api.Attr{attr(strings.Repeat("a", 24), one)}, api.OK},
		{"an attribute with too long a name", []api.Attr{attr(strings.Repeat("a", 25), one)}, api.ErrName},
		{"an attribute without a name", []api.Attr{attr("", one)}, api.ErrName},
		{"an attribute with a key as its name", []api.Attr{attr("0", one)}, api.ErrName},
		{"a second attribute without a name", []api.Attr{attr("a", one), attr("", one)}, api.ErrName},
		{"two attributes of one name", []api.Attr{attr("a", one), attr("a", one)}, api.ErrOrder},
		{"attributes in the wrong order", []api.Attr{attr("b", one), attr("a", one)}, api.ErrOrder},
		{"attributes of which the last is in the wrong order", []api.Attr{attr("a", one), attr("c", one), attr("b", one)}, api.ErrOrder},
		{"an attribute with an int that is too great", []api.Attr{attr("a", num(1<<40+1))}, api.ErrRange},
		{"an attribute with a value without a kind", []api.Attr{attr("a", api.Value{})}, api.ErrKind},
		{"an attribute with a text that is too long", []api.Attr{attr("a", text(strings.Repeat("a", 2001)))}, api.ErrTooLong},
		{"an attribute with a text that is no UTF-8", []api.Attr{attr("a", text("\xff"))}, api.ErrSyntax},
		{"an attribute with a list of different types", []api.Attr{attr("a", seq(one, text("")))}, api.ErrType},
		{"two attributes with many values each", []api.Attr{attr("a", seq(slices.Repeat([]api.Value{seq(slices.Repeat([]api.Value{one}, 98)...)}, 10)...)), attr("b", seq(slices.Repeat([]api.Value{seq(slices.Repeat([]api.Value{one}, 98)...)}, 10)...))}, api.OK},
		{"a name before a value", []api.Attr{attr("", api.Value{})}, api.ErrName},
		{"a name before the order", []api.Attr{attr("b", one), attr("", one)}, api.ErrName},
		{"the order before a value", []api.Attr{attr("b", one), attr("a", api.Value{})}, api.ErrOrder},
		{"a value before the next name", []api.Attr{attr("b", api.Value{}), attr("", one)}, api.ErrKind},
		{"a value before the next order", []api.Attr{attr("b", api.Value{}), attr("a", one)}, api.ErrKind},
		{"a value behind a valid attribute", []api.Attr{attr("a", one), attr("b", api.Value{})}, api.ErrKind},
	} {
		testValidate(t, x.what, attrs(x.l...), x.want)
	}
}

func TestActions(t *testing.T) {
	one := num(1)
	long := func(n int) api.Action {
		return api.Action{Event: "a", Instance: strings.Repeat("/", n), Handler: "go"}
	}
	for _, x := range []struct {
		what string
		l    []api.Action
		want api.Errno
	}{
		{"actions", []api.Action{action("a", "go", one, text("x")), action("b", "go")}, api.OK},
		{"an action of no instance", []api.Action{{Event: "a", Handler: "go"}}, api.OK},
		{"an action of an instance with any path", []api.Action{{Event: "a", Handler: "go", Instance: "\xff \n"}}, api.OK},
		{"an action without an event", []api.Action{action("", "go")}, api.ErrName},
		{"an action with a key as its event", []api.Action{action("-", "go")}, api.ErrName},
		{"an action without a handler", []api.Action{action("a", "")}, api.ErrName},
		{"an action with a key as its handler", []api.Action{action("a", "0")}, api.ErrName},
		{"a second action without a handler", []api.Action{action("a", "go"), action("b", "")}, api.ErrName},
		{"two actions of one event", []api.Action{action("a", "go"), action("a", "to")}, api.ErrOrder},
		{"actions in the wrong order", []api.Action{action("b", "go"), action("a", "to")}, api.ErrOrder},
		{"handlers in any order", []api.Action{action("a", "to"), action("b", "go"), action("c", "go")}, api.OK},
		{"a long path", []api.Action{long(400)}, api.OK},
		{"too long a path", []api.Action{long(401)}, api.ErrTooLong},
		{"many arguments", []api.Action{action("a", "go", slices.Repeat([]api.Value{one}, 100)...)}, api.OK},
		{"too many arguments", []api.Action{action("a", "go", slices.Repeat([]api.Value{one}, 101)...)}, api.ErrTooLong},
		{"arguments of different types", []api.Action{action("a", "go", one, text(""), seq())}, api.OK},
		{"an argument that is no value", []api.Action{action("a", "go", one, api.Value{})}, api.ErrKind},
		{"two arguments that are no values", []api.Action{action("a", "go", one, num(1<<41), api.Value{})}, api.ErrRange},
		{"a name before the order", []api.Action{action("b", "go"), action("a", "")}, api.ErrName},
		{"the order before a path", []api.Action{action("b", "go"), long(401)}, api.ErrOrder},
		{"the order before the arguments", []api.Action{action("b", "go"), action("a", "go", api.Value{})}, api.ErrOrder},
		{"a path before an argument", []api.Action{{Event: "a", Instance: strings.Repeat("/", 401), Handler: "go", Args: []api.Value{{}}}}, api.ErrTooLong},
		{"the number of arguments before an argument", []api.Action{action("a", "go", make([]api.Value, 101)...)}, api.ErrTooLong},
		{"an argument before the next name", []api.Action{action("a", "go", api.Value{}), action("", "go")}, api.ErrKind},
		{"a path before the next name", []api.Action{long(401), action("", "go")}, api.ErrTooLong},
	} {
		testValidate(t, x.what, actions(x.l...), x.want)
	}
}

func TestSameKeys(t *testing.T) {
	testValidate(t, "two children with one key", group(keyed("a"), keyed("a")), api.ErrDuplicate)
	testValidate(t, "children with one key that are not neighbours", group(keyed("a"), keyed("b"), group(), keyed("c"), keyed("a")), api.ErrDuplicate)
	testValidate(t, "two children of two kinds with one key", group(keyed("a"), api.View{Kind: api.KindLabel, Key: "a"}), api.ErrDuplicate)
	testValidate(t, "two children without a key", group(keyed(""), keyed("")), api.OK)
	testValidate(t, "keys that differ in case", group(keyed("a"), keyed("A"), keyed("a-"), keyed("aa")), api.OK)
	testValidate(t, "a key of a child and a grandchild", keyed("a", keyed("a", keyed("a")), keyed("b", keyed("a"))), api.OK)
	testValidate(t, "two grandchildren with one key", group(group(), group(keyed("a"), keyed("a"))), api.ErrDuplicate)
}

// TestOrderOfErrors gives a view two faults at a time: of those in the table, and the later ones below it, the first one counts.
func TestOrderOfErrors(t *testing.T) {
	faults := []struct {
		what string
		make func(v *api.View)
		want api.Errno
	}{
		{"a kind", func(v *api.View) { v.Kind = 14 }, api.ErrKind},
		{"a key", func(v *api.View) { v.Key = "#" }, api.ErrName},
		{"too many children", func(v *api.View) { v.Kids = append(v.Kids, groups(101)...) }, api.ErrTooLong},
		{"the order of attributes", func(v *api.View) { v.Attrs = append(v.Attrs, attr("b", num(1)), attr("a", num(1))) }, api.ErrOrder},
		{"the argument of an action", func(v *api.View) {
			v.Actions = append(v.Actions, action("a", "go", seq(num(1), text(""))))
		}, api.ErrType},
		{"the same keys", func(v *api.View) { v.Kids = append(v.Kids, keyed("a"), keyed("a")) }, api.ErrDuplicate},
		{"the value of a child", func(v *api.View) {
			v.Kids = slices.Insert(v.Kids, 0, group(attrs(attr("a", num(1<<41)))))
		}, api.ErrRange},
	}
	for i, x := range faults {
		for _, y := range faults[i:] {
			v := group(group())
			y.make(&v)
			if y.what != x.what {
				x.make(&v)
			}
			testValidate(t, x.what+" before "+y.what, v, x.want)
		}
	}
	first, second := group(group(api.View{})), keyed("#")
	testValidate(t, "a child before the next one", group(first, second), api.ErrKind)
	testValidate(t, "a child before the next one", group(second, first), api.ErrName)
	tooMany := large(400)
	tooMany.Kids[2].Kids[5].Key = "#"
	testValidate(t, "a key before the number of views", tooMany, api.ErrName)
	tooMany.Key = "#"
	testValidate(t, "the key of the first view before the number of views", tooMany, api.ErrName)
	for _, x := range []struct {
		what  string
		views int // before those that are nested
		want  api.Errno
	}{
		{"the last possible view, which is too deep", 384, api.ErrDepth},
		{"one view too many, which is too deep", 385, api.ErrDepth},
		{"one view too many before one that is too deep", 386, api.ErrTooLong},
	} {
		v := large(x.views - 1)
		v.Kids = append(v.Kids, nested(16, group()))
		testValidate(t, x.what, v, x.want)
	}
}

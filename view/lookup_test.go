package view

import (
	"math"
	"slices"
	"testing"

	"widgetry/api"
)

func TestFind(t *testing.T) {
	tree := renumbered(t)
	for _, n := range tree.Nodes {
		if got, ok := Find(tree, n.ID); !ok || show(got) != show(n) {
			t.Errorf("P14.4: Find of %d = %s, %t", n.ID, show(got), ok)
		}
	}
	for _, id := range []int{0, -1, 1, 41, 101, math.MinInt, math.MaxInt} {
		if got, ok := Find(tree, id); ok || show(got) != show(api.Node{}) {
			t.Errorf("P14.4: Find of %d = %s, %t", id, show(got), ok)
		}
	}
	wrong := api.Tree{Nodes: []api.Node{
		{ID: 5, Kind: 99, Attrs: []api.Attr{{}, attr("", api.Value{Kind: 9, N: 3, S: "x", L: []api.Value{{Kind: 8}}})}, Kids: []int{5, 5}},
		{ID: 0, Key: "none", Actions: []api.Action{{}, action("", "", api.Value{Kind: 7})}},
		{ID: -3, Parent: 4},
		{ID: 5, Kind: 1},
	}}
	for i, n := range wrong.Nodes[:3] {
		if got, ok := Find(wrong, n.ID); !ok || show(got) != show(wrong.Nodes[i]) {
			t.Errorf("P14.4: Find of %d in a tree that is not valid = %s, %t", n.ID, show(got), ok)
		}
	}
	if got, ok := Find(api.Tree{}, 0); ok || show(got) != show(api.Node{}) {
		t.Errorf("P14.4: Find in no tree = %s, %t", show(got), ok)
	}
}

func TestLookups(t *testing.T) {
	list := seq(num(1), seq(text("x")))
	l := []api.Attr{
		attr("zero", num(0)), attr("int", num(-7)), attr("true", truth(1)), attr("false", truth(0)), attr("two", truth(2)),
		attr("text", text("abc")), attr("empty", text("")), attr("list", list), attr("", text("nameless")),
		attr("int", text("second")), attr("text", num(3)), attr("true", truth(0)), attr("false", truth(1)),
		attr("strange", api.Value{Kind: 5, N: 1, S: "s", L: []api.Value{num(4)}}),
		attr("mixed text", api.Value{Kind: api.ValueText, N: 1, S: "t"}), attr("mixed int", api.Value{Kind: api.ValueInt, N: 1 << 50, S: "t"}), attr("mixed bool", api.Value{Kind: api.ValueBool, N: 1, S: "t"}),
	}
	for _, x := range []struct {
		name   string
		want   api.Value
		text   string
		number int // with 55 otherwise
		flag   bool
	}{
		{"zero", num(0), "", 0, false},
		{"int", num(-7), "", -7, false},
		{"true", truth(1), "", 55, true},
		{"false", truth(0), "", 55, false},
		{"two", truth(2), "", 55, false},
		{"text", text("abc"), "abc", 55, false},
		{"empty", text(""), "", 55, false},
		{"list", list, "", 55, false},
		{"", text("nameless"), "nameless", 55, false},
		{"strange", l[13].Value, "", 55, false},
		{"mixed text", l[14].Value, "t", 55, false},
		{"mixed int", l[15].Value, "", 1 << 50, false},
		{"mixed bool", l[16].Value, "", 55, true},
	} {
		if got, ok := Attr(l, x.name); !ok || show(got) != show(x.want) {
			t.Errorf("P14.4: Attr of %q = %s, %t", x.name, show(got), ok)
		}
		if got := Text(l, x.name); got != x.text {
			t.Errorf("P14.4: Text of %q = %q, want %q", x.name, got, x.text)
		}
		if got := Number(l, x.name, 55); got != x.number {
			t.Errorf("P14.4: Number of %q = %d, want %d", x.name, got, x.number)
		}
		if got := Flag(l, x.name); got != x.flag {
			t.Errorf("P14.4: Flag of %q = %t", x.name, got)
		}
	}
	for _, name := range []string{"none", "INT", "in", "ints"} {
		v, ok := Attr(l, name)
		if ok || show(v) != show(api.Value{}) || Text(l, name) != "" || Number(l, name, -9) != -9 || Flag(l, name) {
			t.Errorf("P14.4: there is an attribute %q: %s", name, show(v))
		}
	}
	if _, ok := Attr(nil, ""); ok || Text(nil, "") != "" || Number(nil, "", 1) != 1 || Flag(nil, "") {
		t.Error("P14.4: there is an attribute in an empty list")
	}
}

func TestOrderAndPaths(t *testing.T) {
	tree := renumbered(t)
	if got, want := Order(tree), []int{40, 3, 9, 70, 8, 7, 10, 100, 20, 90}; !slices.Equal(got, want) {
		t.Errorf("P14.4: Order = %v, want %v", got, want)
	}
	for _, x := range []struct {
		id   int
		want []int
		name string
	}{
		{40, []int{40}, "/all"},
		{3, []int{40, 3}, "/all/#2.0"},
		{9, []int{40, 9}, "/all/b"},
		{70, []int{40, 9, 70}, "/all/b/#2.0"},
		{8, []int{40, 9, 8}, "/all/b/#5.0"},
		{7, []int{40, 9, 8, 7}, "/all/b/#5.0/#13.0"},
		{10, []int{40, 9, 10}, "/all/b/#2.1"},
		{100, []int{40, 100}, "/all/l"},
		{20, []int{40, 20}, "/all/#1.0"},
		{90, []int{40, 90}, "/all/#2.1"},
		{1, nil, ""}, {0, nil, ""}, {-40, nil, ""}, {101, nil, ""},
	} {
		if got := Path(tree, x.id); !slices.Equal(got, x.want) {
			t.Errorf("P14.4: Path of %d = %v, want %v", x.id, got, x.want)
		}
		if got := PathName(tree, x.id); got != x.name {
			t.Errorf("P14.5: PathName of %d = %q, want %q", x.id, got, x.name)
		}
	}
	for _, x := range []struct{ a, b, want int }{
		{40, 40, 40}, {7, 7, 7}, {7, 8, 8}, {7, 70, 9}, {7, 10, 9}, {7, 100, 40}, {3, 90, 40}, {7, 40, 40}, {9, 7, 9},
		{40, 41, 0}, {40, 0, 0}, {0, 0, 0}, {-1, 7, 0}, {101, 101, 0},
	} {
		if Common(tree, x.a, x.b) != x.want || Common(tree, x.b, x.a) != x.want {
			t.Errorf("P14.4: Common of %d and %d = %d, %d, want %d", x.a, x.b, Common(tree, x.a, x.b), Common(tree, x.b, x.a), x.want)
		}
	}
	if len(Order(api.Tree{})) > 0 || len(Path(api.Tree{}, 0)) > 0 || Common(api.Tree{}, 0, 0) != 0 || PathName(api.Tree{}, 0) != "" {
		t.Error("P14.4: no tree has an order or paths")
	}
}

// TestNames gives names to children with and without keys.
func TestNames(t *testing.T) {
	label := func(key string) api.View { return api.View{Kind: api.KindLabel, Key: key} }
	slider := func(key string) api.View { return api.View{Kind: api.KindSlider, Key: key} }
	tree := built(t, group(label(""), slider(""), label("2"), label("13"), label(""), slider("a"), slider(""), group(label("")), label("")), 1)
	want := []string{"/#1.0", "/#1.0/#2.0", "/#1.0/#13.0", "/#1.0/2", "/#1.0/13", "/#1.0/#2.1", "/#1.0/a", "/#1.0/#13.1", "/#1.0/#1.0", "/#1.0/#1.0/#2.0", "/#1.0/#2.2"}
	for i, s := range want {
		if got := PathName(tree, i+1); got != s {
			t.Errorf("P14.5: the name of %d is %q, want %q", i+1, got, s)
		}
	}
	many := built(t, large(399), 1)
	names := map[string]int{}
	for _, id := range Order(many) {
		names[PathName(many, id)]++
	}
	if len(names) != 400 || names["/#1.0/#1.2/#1.99"] != 1 || names["/#1.0/#1.3/#1.94"] != 1 {
		t.Errorf("P14.5: 400 nodes have %d names", len(names))
	}
}

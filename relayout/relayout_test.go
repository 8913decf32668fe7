package relayout

import (
	"cmp"
	"fmt"
	"slices"
	"testing"

	"widgetry/api"
	"widgetry/layout"
	"widgetry/style"
	"widgetry/view"
)

// square is a font in which each rune is as wide as the font is large, and a line as high.
var square = api.Font{Units: 20, Ascent: 16, Descent: 4, Default: 20}

func num(n int) api.Value           { return api.Value{Kind: api.ValueInt, N: n} }
func truth(n int) api.Value         { return api.Value{Kind: api.ValueBool, N: n} }
func words(s string) api.Value      { return api.Value{Kind: api.ValueText, S: s} }
func list(l ...api.Value) api.Value { return api.Value{Kind: api.ValueList, L: l} }

func attr(name string, v api.Value) api.Attr { return api.Attr{Name: name, Value: v} }

func textView(kind int, s string, l ...api.Attr) api.View {
	return api.View{Kind: kind, Attrs: append(l, attr("text", words(s)))}
}

func image(w, h int) api.View {
	return api.View{Kind: api.KindImage, Attrs: []api.Attr{attr("height", num(h)), attr("width", num(w))}}
}

func group(kids ...api.View) api.View { return api.View{Kind: api.KindGroup, Kids: kids} }

// world is what the functions have as arguments.
type world struct {
	t     api.Tree
	st    []api.Styled
	fonts []api.Font
	size  api.Size
}

func plainStyle() api.Style {
	s := style.Initial()
	s[api.PropFontSize] = 10
	return s
}

// worldOf returns the world of a view, whose nodes have the numbers from 1 on in preorder.
func worldOf(t *testing.T, v api.View) world {
	t.Helper()
	tree, e := view.Build(v, 1)
	if e != api.OK {
		t.Fatalf("P14.3: Build: %d", e)
	}
	w := world{t: tree, fonts: []api.Font{square}, size: api.Size{W: 100, H: 200}}
	for _, n := range tree.Nodes {
		w.st = append(w.st, api.Styled{ID: n.ID, Style: plainStyle()})
	}
	return w
}

// The nodes of the screen.
const (
	aRoot = 1 + iota
	aLabel
	aRow
	aHeading
	anImage
	aLink
	aField
	aHidden
	aHiddenLabel
	aGroup
	aLast
	aFresh // the next node
)

// screen is a column: a label, a row with a heading, an image and a link, a field, a group that is not shown with a label, and a group with a label.
func screen(t *testing.T) world {
	t.Helper()
	spans := attr("spans", list(list(num(0), num(5), num(0), num(10))))
	hidden := group(textView(api.KindLabel, "ab"))
	hidden.Attrs = []api.Attr{attr("hidden", truth(1))}
	w := worldOf(t, group(
		textView(api.KindLabel, "ab cd", attr("class", words("big"))),
		group(textView(api.KindHeading, "ab"), image(5, 5), textView(api.KindLink, "c d")),
		textView(api.KindField, "ab cd", attr("most", list()), spans),
		hidden,
		group(textView(api.KindLabel, "ef")),
	))
	w.st[aRow-1].Style[api.PropDisplay] = api.DisplayRow
	return w
}

func (w *world) node(id int) *api.Node {
	i := slices.IndexFunc(w.t.Nodes, func(n api.Node) bool { return n.ID == id })
	return &w.t.Nodes[i]
}

func (w *world) style(id int) *api.Style {
	i := slices.IndexFunc(w.st, func(s api.Styled) bool { return s.ID == id })
	return &w.st[i].Style
}

// set gives a node the attribute.
func (w *world) set(id int, name string, v api.Value) {
	n := w.node(id)
	w.unset(id, name)
	n.Attrs = append(n.Attrs, attr(name, v))
	slices.SortFunc(n.Attrs, func(a, b api.Attr) int { return cmp.Compare(a.Name, b.Name) })
}

func (w *world) unset(id int, name string) {
	n := w.node(id)
	n.Attrs = slices.DeleteFunc(slices.Clone(n.Attrs), func(a api.Attr) bool { return a.Name == name })
}

// add gives a node another child.
func (w *world) add(parent int, n api.Node) {
	p := w.node(parent)
	p.Kids = append(slices.Clone(p.Kids), w.t.Next)
	n.ID, n.Parent = w.t.Next, parent
	w.t.Nodes = append(w.t.Nodes, n)
	w.st = append(w.st, api.Styled{ID: n.ID, Style: plainStyle()})
	w.t.Next++
}

// drop removes a node without children.
func (w *world) drop(id int) {
	w.cut(id)
	w.t.Nodes = slices.DeleteFunc(w.t.Nodes, func(n api.Node) bool { return n.ID == id })
	w.st = slices.DeleteFunc(w.st, func(s api.Styled) bool { return s.ID == id })
}

// cut removes a node from the children of its parent.
func (w *world) cut(id int) {
	p := w.node(w.node(id).Parent)
	p.Kids = slices.DeleteFunc(slices.Clone(p.Kids), func(kid int) bool { return kid == id })
}

// show writes nil and empty lists alike.
func show(x any) string { return fmt.Sprintf("%+v", x) }

// begun returns the layout of w as P22.1 describes it, or the error.
func begun(w world) (api.Layout, api.Errno) {
	boxes, e := layout.Compute(w.t, w.st, w.fonts, w.size)
	if e != api.OK {
		return api.Layout{}, e
	}
	return api.Layout{Tree: w.t, Styles: w.st, Fonts: w.fonts, Size: w.size, Boxes: boxes}, api.OK
}

// begin returns the layout of w, which must be valid.
func begin(t *testing.T, w world) api.Layout {
	t.Helper()
	want, _ := begun(w)
	got, e := Begin(w.t, w.st, w.fonts, w.size)
	if e != api.OK || show(got) != show(want) {
		t.Fatalf("P22.1: Begin of %s = %s, %d, want %s", show(w), show(got), e, show(want))
	}
	return got
}

// expect checks the result of Update with w, which has the fonts of l.
func expect(t *testing.T, what string, l api.Layout, w world, want int) api.Layout {
	t.Helper()
	from := begin(t, w)
	got, n, e := Update(l, w.t, w.st, w.size)
	if e != api.OK || show(got) != show(from) {
		t.Fatalf("P22.2: %s: Update = %s, %d, want %s", what, show(got), e, show(from))
	}
	if n != want {
		t.Errorf("P22.2: %s: %d texts are not kept, want %d", what, n, want)
	}
	return got
}

func TestBegin(t *testing.T) {
	w := screen(t)
	l := begin(t, w)
	if len(l.Boxes) != 9 || len(l.Tree.Nodes) != 11 || len(l.Styles) != 11 || len(l.Fonts) != 1 || l.Size != w.size {
		t.Errorf("P22.1: Begin = %s", show(l))
	}
	if r := l.Boxes[1].Rect; r != (api.Rect{W: 100, H: 10}) {
		t.Errorf("P22.1: the first label is at %v", r)
	}
	// A root that is not shown.
	w.style(aRoot)[api.PropDisplay] = api.DisplayNone
	if l := begin(t, w); len(l.Boxes) > 0 || len(l.Tree.Nodes) != 11 {
		t.Errorf("P22.1: Begin of a root that is not shown = %s", show(l))
	}
}

// change is a change of the screen and the number of texts that are not kept.
type change struct {
	name   string
	want   int
	change func(w *world)
}

// TestAttrs changes the attributes of nodes.
func TestAttrs(t *testing.T) {
	testChanges(t, []change{
		{"another text", 1, func(w *world) { w.set(aLabel, "text", words("ab")) }},
		{"another text of the same width and height", 1, func(w *world) { w.set(aLabel, "text", words("cd ab")) }},
		{"two other texts", 2, func(w *world) { w.set(aLabel, "text", words("x")); w.set(aHeading, "text", words("x")) }},
		{"another width in a row", 1, func(w *world) { w.set(aHeading, "text", words("abc")) }},
		{"another attribute", 1, func(w *world) { w.set(aLabel, "class", words("small")) }},
		{"one more", 1, func(w *world) { w.set(aLink, "zzz", num(0)) }},
		{"one more in front", 1, func(w *world) { w.set(aLink, "aaa", num(0)) }},
		{"one less", 1, func(w *world) { w.unset(aLabel, "class") }},
		{"none any more", 1, func(w *world) { w.node(aLast).Attrs = nil }},
		{"another name", 1, func(w *world) { w.unset(aLabel, "class"); w.set(aLabel, "clasp", words("big")) }},
		{"another kind of value", 1, func(w *world) { w.set(aLabel, "class", num(0)) }},
		{"a number inside of lists", 1, func(w *world) { w.set(aField, "spans", list(list(num(0), num(5), num(0), num(11)))) }},
		{"spans that are ignored both times", 1, func(w *world) { w.set(aField, "spans", list(num(0))) }},
		{"an empty list", 0, func(w *world) { w.set(aField, "most", list([]api.Value{}...)) }},
		{"an empty list that is not nil", 0, func(w *world) { w.set(aField, "most", api.Value{Kind: api.ValueList, L: []api.Value{}}) }},
		{"equal attributes in other memory", 0, func(w *world) { w.set(aField, "spans", list(list(num(0), num(5), num(0), num(10)))) }},
		{"a group", 0, func(w *world) { w.set(aRow, "columns", list(num(3))) }},
		{"the height of a figure", 0, func(w *world) { w.set(anImage, "height", num(50)) }},
		{"the width of a figure", 0, func(w *world) { w.set(anImage, "width", num(9)) }},
		{"what is not shown", 0, func(w *world) { w.set(aHiddenLabel, "text", words("x")) }},
	})
}

// testChanges updates the screen after each of the changes, and back again.
func testChanges(t *testing.T, l []change) {
	t.Helper()
	for _, c := range l {
		w := screen(t)
		before := begin(t, screen(t))
		c.change(&w)
		after := expect(t, c.name, before, w, c.want)
		expect(t, c.name+", again", after, w, 0)
	}
}

// TestNodes changes what a node has beside its attributes.
func TestNodes(t *testing.T) {
	testChanges(t, []change{
		{"nothing", 0, func(*world) {}},
		{"a key", 0, func(w *world) { w.node(aLabel).Key = "k" }},
		{"an action", 0, func(w *world) {
			w.node(aLink).Actions = []api.Action{{Event: "press", Instance: "/", Handler: "go", Args: []api.Value{num(1)}}}
		}},
		{"the next ID", 0, func(w *world) { w.t.Next += 5 }},
		{"another kind of text", 1, func(w *world) { w.node(aLabel).Kind = api.KindHeading }},
		{"two other kinds of texts", 2, func(w *world) { w.node(aLabel).Kind = api.KindLink; w.node(aLink).Kind = api.KindField }},
		{"a text instead of a group with two", 1, func(w *world) { w.node(aRow).Kind = api.KindLabel }},
		{"a text instead of a figure", 1, func(w *world) { w.node(anImage).Kind = api.KindField }},
		{"a figure instead of a text", 0, func(w *world) { w.node(aLabel).Kind = api.KindSlider }},
		{"a group instead of a text", 0, func(w *world) { w.node(aLabel).Kind = api.KindGroup }},
		{"another kind of group", 0, func(w *world) { w.node(aGroup).Kind = api.KindScroll }},
		{"another order", 0, func(w *world) { slices.Reverse(w.node(aRoot).Kids) }},
		{"another parent with the same width", 0, func(w *world) { w.move(aLabel, aGroup) }},
		{"another parent with another width", 1, func(w *world) { w.drop(aLink); w.move(aLabel, aRow) }},
		{"another parent, which makes another text narrower", 2, func(w *world) { w.move(aLabel, aRow) }},
		{"a parent that is not shown", 0, func(w *world) { w.move(aLabel, aHidden) }},
		{"one text less", 0, func(w *world) { w.drop(aLast) }},
		{"one text more", 1, func(w *world) { w.add(aGroup, api.Node{Kind: api.KindLabel}) }},
		{"one text more of each kind", 4, func(w *world) {
			for _, kind := range []int{api.KindLabel, api.KindField, api.KindLink, api.KindHeading} {
				w.add(aGroup, api.Node{Kind: kind})
			}
		}},
		{"one more of each other kind", 0, func(w *world) {
			for _, kind := range []int{api.KindGroup, api.KindButton, api.KindImage, api.KindCheck, api.KindScroll, api.KindList, api.KindItem, api.KindDialog, api.KindSlider} {
				w.add(aGroup, api.Node{Kind: kind})
			}
		}},
		{"a text instead of an equal one", 1, func(w *world) {
			w.drop(aLast)
			w.add(aGroup, api.Node{Kind: api.KindLabel, Attrs: []api.Attr{attr("text", words("ef"))}})
		}},
		{"a text in a text, which is not shown", 0, func(w *world) { w.add(aLast, api.Node{Kind: api.KindLabel}) }},
		{"a text that is not shown any more", 0, func(w *world) { w.set(aLabel, "hidden", truth(1)) }},
		{"a group that is not shown any more", 0, func(w *world) { w.set(aRow, "hidden", truth(1)) }},
		{"a group that is shown now", 1, func(w *world) { w.unset(aHidden, "hidden") }},
	})
}

// move makes a node the last child of another parent.
func (w *world) move(id, parent int) {
	w.cut(id)
	w.node(id).Parent = parent
	p := w.node(parent)
	p.Kids = append(slices.Clone(p.Kids), id)
}

// TestStyles changes styles.
func TestStyles(t *testing.T) {
	put := func(id, prop, n int) func(w *world) {
		return func(w *world) { w.style(id)[prop] = n }
	}
	testChanges(t, []change{
		{"a text without a box", 0, put(aLabel, api.PropDisplay, api.DisplayNone)},
		{"a group without boxes", 0, put(aRow, api.PropDisplay, api.DisplayNone)},
		{"a column instead of a row", 2, put(aRow, api.PropDisplay, api.DisplayColumn)},
		{"the gap of a row", 0, put(aRow, api.PropGap, 7)},
		{"the pads of a group", 1, put(aGroup, api.PropPadStart, 7)},
		{"the space above the texts of a group", 0, put(aGroup, api.PropPadTop, 7)},
		{"the direction of a group", 0, put(aRow, api.PropDirection, 1)},
		{"a figure", 0, put(anImage, api.PropColor, 7)},
		{"a figure that takes the place of others", 0, put(anImage, api.PropGrow, 1)},
		{"the alignment of the children", 3, put(aRoot, api.PropAlign, api.AlignStart)},
		{"what is not shown", 0, put(aHiddenLabel, api.PropFontSize, 20)},
	})
}

// TestProperties changes each property of a text.
func TestProperties(t *testing.T) {
	for prop := range api.PropCount {
		n := 1
		switch prop {
		case api.PropShrink, api.PropAlign:
			n = 2
		case api.PropDisplay:
			n = api.DisplayRow
		case api.PropMaxWidth, api.PropMaxHeight:
			n = api.MaxLength - 1
		}
		for _, id := range []int{aLabel, aLink, aField} {
			w := screen(t)
			before := begin(t, w)
			w = screen(t)
			if w.style(id)[prop] == n {
				t.Fatalf("the property %d is %d before", prop, n)
			}
			w.style(id)[prop] = n
			expect(t, fmt.Sprintf("the property %d of %d", prop, id), before, w, 1)
		}
	}
}

// TestWidths changes the widths of texts only.
func TestWidths(t *testing.T) {
	testChanges(t, []change{
		{"the width of the root", 3, func(w *world) { w.size.W++ }},
		{"the height of the root", 0, func(w *world) { w.size.H = 1 }},
		{"a width that is just enough for the row", 3, func(w *world) { w.size.W = 55 }},
		{"a width that is not enough for the row", 4, func(w *world) { w.size.W = 54 }},
		{"no extent", 4, func(w *world) { w.size = api.Size{} }},
		{"a figure that leaves the others room", 0, func(w *world) { w.set(anImage, "width", num(50)) }},
		{"a figure that does not", 1, func(w *world) { w.set(anImage, "width", num(51)) }},
	})
	// In a row with a text that grows the widths depend on one another.
	w := screen(t)
	w.style(aLink)[api.PropGrow] = 1
	before := begin(t, w)
	w.set(aHeading, "text", words("abc"))
	expect(t, "a text beside one that grows", before, w, 2)
}

// TestRoots updates layouts with a text as the root, and without boxes.
func TestRoots(t *testing.T) {
	w := worldOf(t, textView(api.KindLabel, "ab"))
	l := begin(t, w)
	w.size.H = 3
	l = expect(t, "the height of a text", l, w, 0)
	w.size.W = 3
	l = expect(t, "the width of a text", l, w, 1)
	w.st[0].Style[api.PropDisplay] = api.DisplayNone
	l = expect(t, "a root that is not shown", l, w, 0)
	l = expect(t, "a root that is still not shown", l, w, 0)
	w.st[0].Style[api.PropDisplay] = api.DisplayColumn
	l = expect(t, "a root that is shown again", l, w, 1)
	other := screen(t)
	l = expect(t, "another tree", l, other, 5)
	expect(t, "the first tree", l, w, 1)
}

// TestSteps updates a layout again and again.
func TestSteps(t *testing.T) {
	w := screen(t)
	l := begin(t, w)
	for i, s := range []string{"a", "ab", "ab", "a", "", "", "ab cd ef gh ij"} {
		want := 1
		if v := view.Text(w.node(aLabel).Attrs, "text"); v == s {
			want = 0
		}
		w.set(aLabel, "text", words(s))
		l = expect(t, fmt.Sprintf("step %d", i), l, w, want)
	}
	// A text that was hidden for a while has no lines to keep.
	w.set(aGroup, "hidden", truth(1))
	l = expect(t, "a hidden group", l, w, 0)
	w.unset(aGroup, "hidden")
	l = expect(t, "a group that is shown again", l, w, 1)
	// So has one that was away.
	last := *w.node(aLast)
	w.drop(aLast)
	l = expect(t, "a node less", l, w, 0)
	last.ID = 0
	w.add(aGroup, last)
	if w.t.Nodes[len(w.t.Nodes)-1].ID != aFresh {
		t.Fatal("the node has not the next ID")
	}
	expect(t, "a node again", l, w, 1)
}

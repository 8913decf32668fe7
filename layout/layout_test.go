package layout

import (
	"maps"
	"slices"
	"testing"

	"widgetry/api"
	"widgetry/style"
	"widgetry/view"
)

// square is a font in which each rune is as wide as the font is large, and a line as high.
var square = api.Font{Units: 20, Ascent: 16, Descent: 4, Default: 20}

const (
	far     = api.MaxLength
	shortly = 10 // the font size, unless a node has another one
)

func num(n int) api.Value           { return api.Value{Kind: api.ValueInt, N: n} }
func truth(n int) api.Value         { return api.Value{Kind: api.ValueBool, N: n} }
func text(s string) api.Value       { return api.Value{Kind: api.ValueText, S: s} }
func list(l ...api.Value) api.Value { return api.Value{Kind: api.ValueList, L: l} }

func numbers(l ...int) api.Value {
	var values []api.Value
	for _, n := range l {
		values = append(values, num(n))
	}
	return list(values...)
}

// attrs returns attributes in their order.
func attrs(l map[string]api.Value) []api.Attr {
	var out []api.Attr
	for _, name := range slices.Sorted(maps.Keys(l)) {
		out = append(out, api.Attr{Name: name, Value: l[name]})
	}
	return out
}

// props are the properties of a node that have not the initial values.
type props map[int]int

// part is a node with its descendants.
type part struct {
	kind  int
	key   string
	attrs map[string]api.Value
	style props
	kids  []part
}

func label(s string, p props) part {
	return part{kind: api.KindLabel, attrs: map[string]api.Value{"text": text(s)}, style: p}
}

func image(w, h int, p props) part {
	return part{kind: api.KindImage, attrs: map[string]api.Value{"width": num(w), "height": num(h)}, style: p}
}

// group returns a node that has the display.
func group(display int, p props, kids ...part) part {
	return part{kind: api.KindGroup, style: plus(p, api.PropDisplay, display), kids: kids}
}

func column(p props, kids ...part) part { return group(api.DisplayColumn, p, kids...) }
func row(p props, kids ...part) part    { return group(api.DisplayRow, p, kids...) }
func place(p props, kids ...part) part  { return group(api.DisplayPlace, p, kids...) }

func scroll(p props, kids ...part) part {
	return part{kind: api.KindScroll, style: p, kids: kids}
}

// gridOf returns a grid with the columns that the numbers describe.
func gridOf(p props, columns []int, kids ...part) part {
	return group(api.DisplayGrid, p, kids...).with("columns", numbers(columns...))
}

// plus returns properties with another one.
func plus(p props, prop, n int) props {
	all := maps.Clone(p)
	if all == nil {
		all = props{}
	}
	all[prop] = n
	return all
}

// with returns the part with another attribute.
func (p part) with(name string, v api.Value) part {
	all := maps.Clone(p.attrs)
	if all == nil {
		all = map[string]api.Value{}
	}
	all[name] = v
	p.attrs = all
	return p
}

// styled returns the part with another property.
func (p part) styled(prop, n int) part {
	p.style = plus(p.style, prop, n)
	return p
}

func (p part) named(key string) part {
	p.key = key
	return p
}

func (p part) view() api.View {
	v := api.View{Kind: p.kind, Key: p.key, Attrs: attrs(p.attrs)}
	for _, kid := range p.kids {
		v.Kids = append(v.Kids, kid.view())
	}
	return v
}

// styles returns the styles of the part and its descendants in preorder.
func (p part) styles() []api.Style {
	s := style.Initial()
	s[api.PropFontSize] = shortly
	for prop, n := range p.style {
		s[prop] = n
	}
	all := []api.Style{s}
	for _, kid := range p.kids {
		all = append(all, kid.styles()...)
	}
	return all
}

// world returns a tree whose nodes have the numbers from 1 on in preorder.
func (p part) world(t *testing.T) world {
	t.Helper()
	tree, e := view.Build(p.view(), 1)
	if e != api.OK {
		t.Fatalf("P14.3: Build: %d", e)
	}
	w := world{t: tree, fonts: []api.Font{square}}
	for i, s := range p.styles() {
		w.st = append(w.st, api.Styled{ID: i + 1, Style: s})
	}
	return w
}

// boxes returns the boxes of a valid part.
func (p part) boxes(t *testing.T, size api.Size) []api.Box {
	t.Helper()
	w := p.world(t)
	l, e := Compute(w.t, w.st, w.fonts, size)
	if e != api.OK {
		t.Fatalf("P21.1: Compute of %s: %d", show(w), e)
	}
	return l
}

// testRects compares the rectangles of the shown descendants of p, in preorder.
func testRects(t *testing.T, name string, p part, w, h int, want ...api.Rect) {
	t.Helper()
	var got []api.Rect
	for _, b := range p.boxes(t, api.Size{W: w, H: h}) {
		got = append(got, b.Rect)
	}
	if got[0] != (api.Rect{W: w, H: h}) {
		t.Errorf("P21.6: %s: the root has the rectangle %v", name, got[0])
	}
	if !slices.Equal(got[1:], want) {
		t.Errorf("%s: the rectangles are %v, want %v", name, got[1:], want)
	}
}

// testHeight compares the height of p for a width.
func testHeight(t *testing.T, name string, p part, width, want int) {
	t.Helper()
	w := p.world(t)
	if got := Height(w.t, w.st, w.fonts, 1, width); got != want {
		t.Errorf("%s: the height for %d is %d, want %d", name, width, got, want)
	}
}

// testWidths compares the intrinsic widths of p.
func testWidths(t *testing.T, name string, p part, low, high int) {
	t.Helper()
	w := p.world(t)
	a, b := Least(w.t, w.st, w.fonts, 1), Most(w.t, w.st, w.fonts, 1)
	if a != low || b != high {
		t.Errorf("P21.4: %s: Least and Most are %d, %d, want %d, %d", name, a, b, low, high)
	}
}

// testBaseline compares the baseline of p, as far as a row with AlignBaseline sees it: beside an image that is 1000 high.
func testBaseline(t *testing.T, name string, p part, want int) {
	t.Helper()
	both := row(props{api.PropAlign: api.AlignBaseline}, p, image(0, 1000, nil))
	w := both.world(t)
	l, e := Compute(w.t, w.st, w.fonts, api.Size{W: 1000, H: 1000})
	if e != api.OK || l[1].Rect.Y != 1000-want {
		t.Errorf("P21.5: %s: the baseline is %d, %d, want %d", name, 1000-l[1].Rect.Y, e, want)
	}
}

package layout

import (
	"cmp"
	"fmt"
	"math"
	"math/rand/v2"
	"reflect"
	"slices"
	"testing"

	"widgetry/api"
	"widgetry/style"
	"widgetry/view"
)

// maker makes trees and styles by chance, the same in each run. An extreme one often makes numbers near the limits.
type maker struct {
	*rand.Rand
	extreme bool
}

func newMaker(seed uint64, extreme bool) maker {
	return maker{rand.New(rand.NewPCG(21, seed)), extreme}
}

func pick[T any](m maker, l ...T) T { return l[m.IntN(len(l))] }

func oneIn(m maker, n int) bool { return m.IntN(n) == 0 }

// extent returns an extent, often one that is small enough for others to matter.
func (m maker) extent() int {
	if m.extreme && oneIn(m, 2) {
		return pick(m, 0, 1, api.MaxLength/2, api.MaxLength-1, api.MaxLength)
	}
	return pick(m, 0, 1, 5, 10, 17, 30, 60, m.IntN(200))
}

func (m maker) words() string {
	return pick(m, "", "a", "ab cd", "ab cd ef ghi", "ab-cd\nef", "\u05d0\u05d1 \u05d2", "ab \u05d0\u05d1 (c)", "x\n", "ffi VA")
}

// spans returns the attribute "spans", which often fits some text.
func (m maker) spans() api.Value {
	a, b := m.IntN(4), m.IntN(6)
	row := func(l ...int) api.Value { return numbers(l...) }
	return pick(m,
		list(row(0, a, m.IntN(3), 10), row(a, b, m.IntN(3), 1+m.IntN(20))),
		list(row(0, 5, 0, 12)),
		list(row(0, 2, 1, 12), row(2, 5, 0, 7)),
		list(row(0, 2, 0, 12), row(3, 5, 0, 7)),
		list(row(0, 1, 0, 12)),
		list(row(0, 0, 0, 12)),
		list(row(0, 5, 0, 0)),
		list(row(0, 5, 0)),
		list(),
		text("0 5 0 10"),
	)
}

func (m maker) columns() api.Value {
	var l []int
	for range m.IntN(5) {
		l = append(l, pick(m, 0, 0, -1, -2, -1000, 20, 1+m.extent()%api.MaxLength))
	}
	return pick(m, numbers(l...), numbers(l...), numbers(l...), numbers(0, -1), numbers(-1001), list(text("5")), num(3))
}

func (m maker) key() string { return pick(m, "", "a", "b", "c", "d") }

// attrs returns attributes of which those with a meaning for layouts are frequent, and often have a value of another kind.
func (m maker) attrs(kind int) []api.Attr {
	l := map[string]api.Value{}
	put := func(n int, name string, v api.Value) {
		if oneIn(m, n) {
			l[name] = v
		}
	}
	put(15, "hidden", pick(m, truth(1), truth(1), truth(0), num(1)))
	for _, name := range []string{"above", "alignleft", "aligntop", "left"} {
		put(3, name, pick(m, text(m.key()), text(m.key()), text("none"), num(1)))
	}
	put(3, "span", pick(m, num(2), num(3), num(m.IntN(30)-2), text("2")))
	put(2, "columns", m.columns())
	if isTextRead(kind) || oneIn(m, 9) {
		put(3, "spans", m.spans())
		put(1, "text", pick(m, text(m.words()), text(m.words()), text(m.words()), num(7)))
	}
	if isFigureRead(kind) || oneIn(m, 9) {
		put(1, "height", pick(m, num(m.extent()), num(m.extent()), num(-5), num(api.MaxLength+7), text("9")))
		put(1, "width", pick(m, num(m.extent()), num(m.extent()), num(-5), num(api.MaxLength+7), text("9")))
	}
	return attrs(l)
}

// views returns a valid view with n views inside, nested up to that depth.
func (m maker) views(n, depth int) api.View {
	kind := pick(m, 1, 1, 1, 1, 3, 10, 11, 12, api.KindScroll, api.KindScroll, api.KindCheck)
	if n == 0 || oneIn(m, 12) {
		kind = 1 + m.IntN(api.MostKind)
	}
	v := api.View{Kind: kind, Attrs: m.attrs(kind)}
	used := map[string]bool{}
	for n > 0 && depth > 1 {
		inside := m.IntN(n)
		kid := m.views(inside, depth-1)
		if key := m.key(); !used[key] {
			kid.Key, used[key] = key, key != ""
		}
		v.Kids = append(v.Kids, kid)
		n -= inside + 1
	}
	return v
}

// styleOf returns a style of which about every property is sometimes not the initial one.
func (m maker) styleOf() api.Style {
	s := style.Initial()
	put := func(n, prop, value int) {
		if oneIn(m, n) {
			s[prop] = value
		}
	}
	put(1, api.PropFontSize, pick(m, 10, 10, 10, 1, 16, 33))
	put(3, api.PropFontFace, m.IntN(api.MaxFonts))
	put(2, api.PropDirection, 1)
	put(1, api.PropDisplay, pick(m, api.DisplayColumn, api.DisplayRow, api.DisplayRow, api.DisplayGrid, api.DisplayPlace))
	put(20, api.PropDisplay, api.DisplayNone)
	put(2, api.PropAlign, m.IntN(5))
	put(2, api.PropJustify, m.IntN(4))
	put(2, api.PropTextAlign, m.IntN(3))
	put(2, api.PropGap, pick(m, 1, 4, m.extent()))
	put(2, api.PropGrow, pick(m, 1, 2, 1000))
	put(2, api.PropShrink, pick(m, 0, 2, 1000))
	put(4, api.PropBasis, m.extent())
	for _, prop := range []int{api.PropMinWidth, api.PropMaxWidth, api.PropMinHeight, api.PropMaxHeight} {
		put(7, prop, m.extent())
	}
	for _, prop := range []int{api.PropPadStart, api.PropPadTop, api.PropPadEnd, api.PropPadBottom} {
		put(3, prop, pick(m, 1, 2, 5, m.extent()))
	}
	return s
}

func (m maker) fonts() []api.Font {
	narrow := api.Font{Units: 20, Ascent: 10, Descent: 2, Gap: 3, Default: 11, Advances: []api.Advance{{From: 'a', To: 'c', Width: 17}}, Kerns: []api.Kern{{A: 'V', B: 'A', D: -4}}, Ligatures: []api.Ligature{{A: 'f', B: 'f', Glyph: 0x110000, Width: 20}}}
	return pick(m, []api.Font{square}, []api.Font{square, narrow}, []api.Font{narrow, square, square})
}

// world returns arguments of the functions; the nodes are often not numbered in preorder.
func (m maker) world(t *testing.T, n, depth int) world {
	t.Helper()
	tree, e := view.Build(m.views(n, depth), 1)
	if e != api.OK {
		t.Fatalf("P14.3: Build: %d", e)
	}
	if oneIn(m, 2) {
		m.renumber(&tree)
	}
	w := world{t: tree, fonts: m.fonts()}
	for _, n := range tree.Nodes {
		w.st = append(w.st, api.Styled{ID: n.ID, Style: m.styleOf()})
	}
	return w
}

// renumber gives the nodes of a tree other IDs, which are no longer in preorder.
func (m maker) renumber(t *api.Tree) {
	ids := map[int]int{}
	for i, n := range m.Perm(len(t.Nodes)) {
		ids[t.Nodes[i].ID] = 2*n + 1 + m.IntN(2)
	}
	t.Root = ids[t.Root]
	for i := range t.Nodes {
		n := &t.Nodes[i]
		n.ID, n.Parent = ids[n.ID], ids[n.Parent]
		for k := range n.Kids {
			n.Kids[k] = ids[n.Kids[k]]
		}
	}
	slices.SortFunc(t.Nodes, func(a, b api.Node) int { return cmp.Compare(a.ID, b.ID) })
	t.Next = t.Nodes[len(t.Nodes)-1].ID + 1 + m.IntN(3)
}

func (m maker) size() api.Size {
	if oneIn(m, 30) {
		return pick(m, api.Size{W: -1, H: 5}, api.Size{W: 5, H: api.MaxLength + 1}, api.Size{W: api.MaxLength, H: api.MaxLength}, api.Size{})
	}
	return api.Size{W: m.extent() + m.IntN(300), H: m.extent() + m.IntN(300)}
}

// testWorld compares all functions with their readings.
func testWorld(t *testing.T, w world, size api.Size, widths ...int) (e api.Errno) {
	t.Helper()
	var want []api.Box
	wantErr := errorOf(func() { want = w.computeRead(size) })
	got, e := Compute(w.t, w.st, w.fonts, size)
	if e != wantErr || !sameBoxes(got, want) {
		t.Fatalf("P21.9: Compute of %s for %v = %+v, %d, want %+v, %d", show(w), size, got, e, want, wantErr)
	}
	var shown []int
	errorOf(func() { shown = w.shownRead() })
	if got := Shown(w.t, w.st); !slices.Equal(got, shown) {
		t.Fatalf("P21.2: Shown of %s = %v, want %v", show(w), got, shown)
	}
	valid := errorOf(func() { w.argumentsRead(api.Size{}) }) == api.OK
	for _, id := range idsOf(w.t) {
		found := valid && slices.ContainsFunc(w.t.Nodes, func(n api.Node) bool { return n.ID == id })
		testExtents(t, w, id, found, widths)
	}
	return e
}

// testExtents compares Least, Most and Height of a node with their readings if there is such a node and the arguments are valid, and otherwise with 0.
func testExtents(t *testing.T, w world, id int, found bool, widths []int) {
	t.Helper()
	low, high := 0, 0
	if found {
		low, high = w.widthRead(id, false), w.widthRead(id, true)
	}
	if a, b := Least(w.t, w.st, w.fonts, id), Most(w.t, w.st, w.fonts, id); a != low || b != high {
		t.Fatalf("P21.4: Least and Most of %d in %s = %d, %d, want %d, %d", id, show(w), a, b, low, high)
	}
	for _, width := range widths {
		want := 0
		if found {
			want = w.heightRead(id, width)
		}
		if got := Height(w.t, w.st, w.fonts, id, width); got != want {
			t.Fatalf("P21.5: Height of %d for %d in %s = %d, want %d", id, width, show(w), got, want)
		}
	}
}

// idsOf returns the IDs of the nodes, and some that are none.
func idsOf(t api.Tree) []int {
	ids := []int{0, -1, t.Next, math.MaxInt, math.MinInt}
	for _, n := range t.Nodes {
		ids = append(ids, n.ID)
	}
	return ids
}

func sameBoxes(a, b []api.Box) bool {
	return slices.EqualFunc(a, b, func(x, y api.Box) bool {
		return x.ID == y.ID && x.Rect == y.Rect && x.Baseline == y.Baseline && slices.EqualFunc(x.Lines, y.Lines, sameLine)
	})
}

func sameLine(x, y api.Line) bool {
	same := slices.Equal(x.Glyphs, y.Glyphs)
	x.Glyphs, y.Glyphs = nil, nil
	return same && reflect.DeepEqual(x, y)
}

func show(w world) string { return fmt.Sprintf("%+v", w) }

// TestChance compares all functions with their readings for trees made by chance.
func TestChance(t *testing.T) {
	count := map[api.Errno]int{}
	for seed := range uint64(4000) {
		m := newMaker(seed, seed%4 == 3)
		w := m.world(t, m.IntN(16), 1+m.IntN(5))
		count[testWorld(t, w, m.size(), m.IntN(300)-20, m.extent())]++
	}
	if count[api.OK] < 2000 || count[api.ErrRange] < 100 {
		t.Errorf("the trees made by chance have the errors %v", count)
	}
}

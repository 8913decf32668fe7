package layout

import (
	"slices"
	"testing"

	"widgetry/api"
	"widgetry/style"
)

// spoiled is what makes one condition of P21.1 apply to the world of crowd.
type spoiled struct {
	name  string
	e     api.Errno
	spoil func(w *world, size *api.Size)
}

// crowd has a place with 32 children that are shown and one that is not, and a row with three images.
func crowd() part {
	inside := row(nil, image(5, 5, nil), image(5, 5, nil), image(5, 5, nil))
	kids := []part{inside, image(5, 5, props{api.PropDisplay: api.DisplayNone})}
	for range 31 {
		kids = append(kids, image(5, 5, nil))
	}
	return place(nil, kids...)
}

const (
	firstOfRow = 3 // the first image in the row of crowd
	lastOfRow  = 5
	notShown   = 6 // the child of the place that is not shown
)

// conditions are the conditions of P21.1 in their order.
func conditions() []spoiled {
	return []spoiled{
		{"the tree", api.ErrKind, func(w *world, _ *api.Size) { w.t.Nodes[1].Kind = 0 }},
		{"the styles", api.ErrMissing, func(w *world, _ *api.Size) { w.st[3].ID = 0 }},
		{"a value of a style", api.ErrRange, func(w *world, _ *api.Size) { w.st[2].Style[api.PropFontSize] = 0 }},
		{"the fonts", api.ErrTooLong, func(w *world, _ *api.Size) { w.fonts = append(w.fonts, make([]api.Font, api.MaxFonts)...) }},
		{"a font", api.ErrOrder, func(w *world, _ *api.Size) {
			w.fonts[0].Kerns = []api.Kern{{A: 'b'}, {A: 'a'}}
		}},
		{"too many children of a place", api.ErrTooLong, func(w *world, _ *api.Size) { w.st[notShown-1].Style[api.PropDisplay] = api.DisplayColumn }},
		{"a rectangle", api.ErrRange, func(w *world, _ *api.Size) {
			for id := firstOfRow; id <= lastOfRow; id++ {
				w.st[id-1].Style[api.PropMinWidth] = far
			}
		}},
	}
}

// TestErrors makes each condition of P21.1 apply, and each two of them.
func TestErrors(t *testing.T) {
	size := api.Size{W: 50, H: 50}
	if w := crowd().world(t); testWorld(t, w, size, 20) != api.OK {
		t.Fatal("P21.1: a place with 32 children that are shown is refused")
	}
	all := conditions()
	for i, a := range all {
		for _, b := range all[i:] {
			w, s := crowd().world(t), size
			b.spoil(&w, &s)
			a.spoil(&w, &s)
			l, e := Compute(w.t, w.st, w.fonts, s)
			if e != a.e || len(l) > 0 {
				t.Errorf("P21.1: %s and %s: Compute = %v, %d, want %d", a.name, b.name, l, e, a.e)
			}
		}
	}
}

// TestOtherFunctions passes the same arguments to the functions without an error. The sixth condition is the last one that is about arguments.
func TestOtherFunctions(t *testing.T) {
	for i, c := range conditions() {
		w, size := crowd().world(t), api.Size{}
		c.spoil(&w, &size)
		valid := i == 6
		a, b, h := Least(w.t, w.st, w.fonts, 2), Most(w.t, w.st, w.fonts, 2), Height(w.t, w.st, w.fonts, 2, 50)
		if a > 0 != valid || b > 0 != valid || h > 0 != valid {
			t.Errorf("P21.1: %s: Least, Most and Height are %d, %d, %d", c.name, a, b, h)
		}
		if l := Shown(w.t, w.st); len(l) > 0 != (i >= 3) {
			t.Errorf("P21.2: %s: Shown = %v", c.name, l)
		}
		// Absolute takes no styles and no fonts.
		l := []api.Box{{ID: 1, Rect: api.Rect{W: 3}}}
		if r := Absolute(w.t, l, 1); r.W > 0 != (i >= 1) {
			t.Errorf("P21.9: %s: Absolute = %v", c.name, r)
		}
	}
}

// TestStyles passes lists of styles that are not those of the nodes.
func TestStyles(t *testing.T) {
	w := column(nil, image(1, 1, nil), image(1, 1, nil)).world(t)
	s := w.st
	for _, st := range [][]api.Styled{nil, s[:2], s[1:], {s[0], s[2], s[1]}, {s[0], s[1], s[1]}, {s[0], s[1], s[1], s[2]}, append(slices.Clone(s), api.Styled{ID: 4, Style: s[0].Style}), append([]api.Styled{{Style: s[0].Style}}, s...)} {
		if l, e := Compute(w.t, st, w.fonts, api.Size{W: 9, H: 9}); e != api.ErrMissing || len(l) > 0 {
			t.Errorf("P21.1: Compute with the styles %v = %v, %d", st, l, e)
		}
		if a, l := Most(w.t, st, w.fonts, 1), Shown(w.t, st); a != 0 || len(l) > 0 {
			t.Errorf("P21.1: with the styles %v Most is %d and Shown %v", st, a, l)
		}
	}
}

// TestRanges passes each property and each extent of the root with its least and greatest values, and with those beside them.
func TestRanges(t *testing.T) {
	w := column(nil, label("ab", nil)).world(t)
	for prop := range api.PropCount {
		for _, n := range []int{-2, -1, 0, 1, 3, 4, 7, 8, 1000, 1001, far, far + 1, 0xFFFFFF, 0x1000000} {
			// A property of the first node and of the last one.
			for i := range w.st {
				st := slices.Clone(w.st)
				st[i].Style[prop] = n
				_, e := Compute(w.t, st, w.fonts, api.Size{W: 40, H: 40})
				a := Shown(w.t, st)
				if refused := !style.InRange(prop, n); refused != (e == api.ErrRange) || refused && len(a) > 0 {
					t.Errorf("P21.1: the property %d of %d: %d and %v, %d", prop, i, n, a, e)
				}
			}
		}
	}
	for n, want := range map[int]api.Errno{-1: api.ErrRange, 0: api.OK, far: api.OK, far + 1: api.ErrRange} {
		for _, size := range []api.Size{{W: n, H: 5}, {W: 5, H: n}} {
			if l, e := Compute(w.t, w.st, w.fonts, size); e != want || len(l) > 0 != (e == api.OK) {
				t.Errorf("P21.1: the size %v: %v, %d, want %d", size, l, e, want)
			}
		}
	}
	// The size comes before the fonts.
	if _, e := Compute(w.t, w.st, nil, api.Size{W: -1}); e != api.ErrRange {
		t.Errorf("P21.1: a size and no fonts: %d", e)
	}
}

// TestFonts passes too few and too many fonts, and some that are not valid.
func TestFonts(t *testing.T) {
	w := column(nil, label("ab", nil)).world(t)
	bad := api.Font{Units: 15}
	unordered := square
	unordered.Kerns = []api.Kern{{A: 'b'}, {A: 'a'}}
	for _, x := range []struct {
		fonts []api.Font
		want  api.Errno
	}{
		{nil, api.ErrTooLong},
		{[]api.Font{square}, api.OK},
		{slices.Repeat([]api.Font{square}, 8), api.OK},
		{slices.Repeat([]api.Font{square}, 9), api.ErrTooLong},
		{slices.Repeat([]api.Font{bad}, 9), api.ErrTooLong},
		{[]api.Font{square, bad, unordered}, api.ErrRange},
		{[]api.Font{square, unordered, bad}, api.ErrOrder},
	} {
		_, e := Compute(w.t, w.st, x.fonts, api.Size{W: 9, H: 9})
		a, b, h := Least(w.t, w.st, x.fonts, 2), Most(w.t, w.st, x.fonts, 2), Height(w.t, w.st, x.fonts, 2, 9)
		valid := x.want == api.OK
		if e != x.want || a > 0 != valid || b > 0 != valid || h > 0 != valid {
			t.Errorf("P21.1: %d fonts: %d, want %d; %d, %d, %d", len(x.fonts), e, x.want, a, b, h)
		}
	}
}

// TestCrowds counts the children of several places.
func TestCrowds(t *testing.T) {
	full := slices.Repeat([]part{image(1, 1, nil)}, 33)
	for _, x := range []struct {
		name string
		p    part
		want api.Errno
	}{
		{"32 children", place(nil, full[1:]...), api.OK},
		{"33 children", place(nil, full...), api.ErrTooLong},
		{"33 children of an inner place", row(nil, column(nil), place(nil, full...)), api.ErrTooLong},
		{"33 children of another kind of node", part{kind: api.KindDialog, style: props{api.PropDisplay: api.DisplayPlace}, kids: full}, api.ErrTooLong},
		{"33 children of a scrolling node", scroll(props{api.PropDisplay: api.DisplayPlace}, full...), api.ErrTooLong},
		{"100 children of a column", column(nil, slices.Repeat(full[:1], 100)...), api.OK},
		{"one of them is hidden", place(nil, append(full[1:], full[0].with("hidden", truth(1)))...), api.OK},
		{"the place is hidden", column(nil, place(nil, full...).with("hidden", truth(1))), api.OK},
		{"the place is in something hidden", column(nil, column(nil, place(nil, full...)).styled(api.PropDisplay, api.DisplayNone)), api.OK},
		{"children of a text are not shown", part{kind: api.KindLabel, style: props{api.PropDisplay: api.DisplayPlace}, kids: full}, api.OK},
	} {
		w := x.p.world(t)
		if e := testWorld(t, w, api.Size{W: 50, H: 50}, 20); e != x.want {
			t.Errorf("P21.1: %s: %d, want %d", x.name, e, x.want)
		}
	}
}

// TestInvalidRects makes each number of a rectangle as great or small as it can be, and then greater or smaller.
func TestInvalidRects(t *testing.T) {
	wide := func(w int) part { return image(0, 0, props{api.PropMinWidth: w, api.PropMaxWidth: w}) }
	high := func(h int) part { return image(0, h, nil) }
	for _, x := range []struct {
		name string
		p    part
		want api.Errno
	}{
		{"the greatest X", row(nil, wide(far), wide(1)), api.OK},
		{"X", row(nil, wide(far), wide(1), wide(1)), api.ErrRange},
		{"the least X", row(props{api.PropDirection: 1}, wide(far), wide(50)), api.OK},
		{"X below 0", row(props{api.PropDirection: 1}, wide(far), wide(51)), api.ErrRange},
		{"the greatest Y", column(nil, high(far), high(1)), api.OK},
		{"Y", column(nil, high(far), high(1), high(1)), api.ErrRange},
		{"the least Y", column(props{api.PropJustify: api.AlignEnd}, high(far), high(50)), api.OK},
		{"Y below 0", column(props{api.PropJustify: api.AlignEnd}, high(far), high(51)), api.ErrRange},
		{"the greatest W", gridOf(nil, []int{far - 1, 1}, high(1).with("span", num(2))), api.OK},
		{"W", gridOf(nil, []int{far, 1}, high(1).with("span", num(2))), api.ErrRange},
		{"W of a node with children", gridOf(nil, []int{far, 1}, row(nil, high(1)).with("span", num(2))), api.ErrRange},
		{"a rectangle that is not shown", row(nil, wide(far), wide(1), wide(1).with("hidden", truth(1))), api.OK},
		{"an inner rectangle", column(nil, high(1), row(nil, wide(far), wide(1), wide(1))), api.ErrRange},
	} {
		w := x.p.world(t)
		if e := testWorld(t, w, api.Size{W: 50, H: 50}); e != x.want {
			t.Errorf("P21.1: %s: %d, want %d", x.name, e, x.want)
		}
	}
}

// TestNoNode asks for nodes that are not there.
func TestNoNode(t *testing.T) {
	w := column(nil, image(5, 5, nil)).world(t)
	boxes := []api.Box{{ID: 0, Rect: api.Rect{W: 1}}, {ID: 3, Rect: api.Rect{W: 1}}}
	for _, id := range []int{0, -1, 3, 1 << 62} {
		a, b, h, r := Least(w.t, w.st, w.fonts, id), Most(w.t, w.st, w.fonts, id), Height(w.t, w.st, w.fonts, id, 5), Absolute(w.t, boxes, id)
		if a != 0 || b != 0 || h != 0 || r != (api.Rect{}) {
			t.Errorf("P21.1: the node %d has %d, %d, %d, %v", id, a, b, h, r)
		}
	}
}

// TestNotShown asks for the extents of nodes that are not shown: they have their kind and their style, but no children.
func TestNotShown(t *testing.T) {
	kid := image(30, 40, nil)
	pads := props{api.PropPadStart: 1, api.PropPadEnd: 2, api.PropPadTop: 4, api.PropPadBottom: 8, api.PropGap: 16}
	for _, x := range []struct {
		name              string
		p                 part
		low, high, height int
	}{
		{"a text", label("ab cde", pads), 33, 63, 32},
		{"a figure", image(7, 9, pads), 10, 10, 21},
		{"a column", column(pads, kid, kid), 3, 3, 12},
		{"a row", row(pads, kid, kid), 3, 3, 12},
		{"a grid", gridOf(pads, []int{20, 0, 5}, kid, kid), 60, 60, 12},
		{"a place", place(pads, kid, kid), 3, 3, 12},
		{"a scrolling node", scroll(plus(pads, api.PropBasis, 70), kid, kid), 3, 3, 82},
		{"limits", column(props{api.PropMinWidth: 15, api.PropMinHeight: 25}, kid), 15, 15, 25},
	} {
		for name, root := range map[string]part{
			"itself":        column(nil, x.p.with("hidden", truth(1))),
			"its parent":    column(nil, column(nil, x.p).with("hidden", truth(1))).kids[0],
			"in a text":     part{kind: api.KindLink, kids: []part{x.p}},
			"in a figure":   part{kind: api.KindImage, kids: []part{x.p}},
			"without boxes": part{kind: api.KindGroup, style: props{api.PropDisplay: api.DisplayNone}, kids: []part{x.p}},
		} {
			w := root.world(t)
			a, b, h := Least(w.t, w.st, w.fonts, 2), Most(w.t, w.st, w.fonts, 2), Height(w.t, w.st, w.fonts, 2, 43)
			if a != x.low || b != x.high || h != x.height {
				t.Errorf("P21.1: %s that is not shown because of %s: %d, %d, %d, want %d, %d, %d", x.name, name, a, b, h, x.low, x.high, x.height)
			}
		}
	}
	// DisplayNone leaves open how a group is laid out, but without children that does not matter.
	p := column(pads, kid)
	p.style[api.PropDisplay] = api.DisplayNone
	testWidths(t, "a root without a box", p, 3, 3)
	testHeight(t, "P21.1: a root without a box", p, 50, 12)
}

// TestWidthLimits passes widths beyond the limits to Height.
func TestWidthLimits(t *testing.T) {
	// Five runes of this font are wider than any paragraph, four are by 24576 narrower.
	huge := api.Font{Units: 16, Ascent: 16, Default: 4096}
	p := label("aaaa", props{api.PropFontSize: 1000, api.PropPadStart: 24577})
	w := p.world(t)
	w.fonts = []api.Font{huge}
	for width, want := range map[int]int{far: 2000, far + 1: 2000, far + 24577: 2000, 1 << 60: 2000, 24577: 4000, 0: 4000, -1: 4000, -1 << 60: 4000} {
		if h := Height(w.t, w.st, w.fonts, 1, width); h != want {
			t.Errorf("P21.1: the height for the width %d is %d, want %d", width, h, want)
		}
	}
	// The column of a grid is limited in the same way when its content is measured.
	w = gridOf(nil, []int{far, far}, p.with("span", num(2))).world(t)
	w.fonts = []api.Font{huge}
	if h := Height(w.t, w.st, w.fonts, 1, 50); h != 2000 {
		t.Errorf("P21.1: the height of a very wide grid is %d", h)
	}
	// So it is when its baseline is looked for: the second span, which is higher, does not fit into the first line.
	tall := huge
	tall.Ascent = 32
	spanned := label("aa b", p.style).with("spans", list(numbers(0, 3, 0, 1000), numbers(3, 4, 1, 1000)))
	w = row(props{api.PropAlign: api.AlignBaseline}, gridOf(nil, []int{far, far}, spanned.with("span", num(2))), image(5, 3000, nil)).world(t)
	w.fonts = []api.Font{huge, tall}
	if h := Height(w.t, w.st, w.fonts, 1, 50); h != 5000 {
		t.Errorf("P21.1: the height of a row with a very wide grid is %d", h)
	}
}

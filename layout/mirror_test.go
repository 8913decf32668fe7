package layout

import (
	"slices"
	"testing"

	"widgetry/api"
	"widgetry/view"
)

// reversed returns the styles with the other direction.
func reversed(st []api.Styled) []api.Styled {
	l := slices.Clone(st)
	for i := range l {
		l[i].Style[api.PropDirection] = 1 - l[i].Style[api.PropDirection]
	}
	return l
}

// plain changes a world so that reversing it changes no width, height or text: the advances of its font do not depend on what stands beside a rune, and no node is too narrow for its pads.
func plain(w world) world {
	w.fonts = []api.Font{square}
	for i := range w.st {
		s := &w.st[i].Style
		s[api.PropMinWidth] = max(s[api.PropMinWidth], s[api.PropPadStart]+s[api.PropPadEnd])
	}
	return w
}

// boxOf returns the box with that ID.
func boxOf(l []api.Box, id int) api.Box {
	i := slices.IndexFunc(l, func(b api.Box) bool { return b.ID == id })
	return l[i]
}

// TestMirror reverses the direction of all nodes of trees made by chance (P21.10).
func TestMirror(t *testing.T) {
	mirrored := 0
	for seed := range uint64(600) {
		m := newMaker(1000000+seed, false)
		w := plain(m.world(t, m.IntN(20), 1+m.IntN(5)))
		size := api.Size{W: 450 + m.IntN(300), H: m.IntN(300)}
		a, e := Compute(w.t, w.st, w.fonts, size)
		b, f := Compute(w.t, reversed(w.st), w.fonts, size)
		// The rectangle of a child that is much too wide may be valid at one side only.
		if e != api.OK || f != api.OK {
			continue
		}
		for i, x := range a {
			parent := w.node(x.ID).Parent
			if parent == 0 {
				continue
			}
			y := b[i]
			wide := boxOf(a, parent).Rect.W
			// The column of a grid may be too narrow for the pads of the child.
			if s := w.style(parent); wide < s[api.PropPadStart]+s[api.PropPadEnd] {
				continue
			}
			want := x.Rect
			want.X = wide - x.Rect.X - x.Rect.W
			if y.Rect != want || y.Baseline != x.Baseline || len(y.Lines) != len(x.Lines) {
				t.Fatalf("P21.10: the rectangle of %d is %v, and reversed %v, want %v, in %s", x.ID, x.Rect, y.Rect, want, show(w))
			}
			mirrored++
		}
	}
	if mirrored < 1000 {
		t.Errorf("only %d boxes are mirrored", mirrored)
	}
}

// TestMirrorPads reverses nodes of which the two pads are equal, and others.
func TestMirrorPads(t *testing.T) {
	for _, p := range []props{nil, pads, {api.PropPadStart: 6, api.PropPadEnd: 6}, {api.PropPadEnd: 40}} {
		for _, display := range []int{api.DisplayColumn, api.DisplayRow, api.DisplayGrid, api.DisplayPlace} {
			for align := api.AlignStart; align <= api.AlignBaseline; align++ {
				for justify := api.AlignStart; justify <= api.JustifyBetween; justify++ {
					p := group(display, plus(plus(p, api.PropAlign, align), api.PropJustify, justify), label("ab cd", nil).named("a"), image(7, 8, nil).tie("left", "a")).with("columns", numbers(20, 0))
					w := p.world(t)
					a, e := Compute(w.t, w.st, w.fonts, api.Size{W: 100, H: 50})
					b, f := Compute(w.t, reversed(w.st), w.fonts, api.Size{W: 100, H: 50})
					for i := 1; i < 3; i++ {
						want := a[i].Rect
						want.X = 100 - want.X - want.W
						if e != api.OK || f != api.OK || b[i].Rect != want {
							t.Errorf("P21.10: %v becomes %v, %d, %d", a[i].Rect, b[i].Rect, e, f)
						}
					}
				}
			}
		}
	}
}

// TestNotShownSubtrees changes the subtrees that are not shown, or takes them away (P21.10).
func TestNotShownSubtrees(t *testing.T) {
	compared := 0
	for seed := range uint64(600) {
		m := newMaker(2000000+seed, false)
		w := m.world(t, m.IntN(20), 1+m.IntN(5))
		size := api.Size{W: m.IntN(300), H: m.IntN(300)}
		want, e := Compute(w.t, w.st, w.fonts, size)
		shown := Shown(w.t, w.st)
		if e != api.OK || len(shown) == 0 || len(shown) == len(w.t.Nodes) {
			continue
		}
		compared++
		less := without(w, shown)
		if got, e := Compute(less.t, less.st, less.fonts, size); e != api.OK || !sameBoxes(got, want) {
			t.Fatalf("P21.10: the boxes of %s are %+v, %d, and without what is not shown %+v", show(w), want, e, got)
		}
		for i, n := range w.t.Nodes {
			if !slices.Contains(shown, n.ID) {
				display := w.st[i].Style[api.PropDisplay]
				w.st[i].Style = m.styleOf()
				w.st[i].Style[api.PropDisplay] = display
			}
		}
		if got, e := Compute(w.t, w.st, w.fonts, size); e != api.OK || !sameBoxes(got, want) {
			t.Fatalf("P21.10: the boxes of %s are %+v, %d, and with other styles of what is not shown %+v", show(w), want, e, got)
		}
	}
	if compared < 100 {
		t.Errorf("only %d trees are compared", compared)
	}
}

// without returns a world that has only the nodes that are shown.
func without(w world, shown []int) world {
	less := world{t: api.Tree{Root: w.t.Root, Next: w.t.Next}, fonts: w.fonts}
	gone := func(id int) bool { return !slices.Contains(shown, id) }
	for i, n := range w.t.Nodes {
		if gone(n.ID) {
			continue
		}
		n.Kids = slices.DeleteFunc(slices.Clone(n.Kids), gone)
		less.t.Nodes, less.st = append(less.t.Nodes, n), append(less.st, w.st[i])
	}
	return less
}

// TestSameResults calls all functions twice, and changes the results of the first calls in between (R2).
func TestSameResults(t *testing.T) {
	p := column(pads, row(nil, label("ab cd", nil).with("spans", list(numbers(0, 5, 0, 12))), image(5, 5, nil)))
	w := p.world(t)
	size := api.Size{W: 100, H: 100}
	first, e := Compute(w.t, w.st, w.fonts, size)
	if e != api.OK {
		t.Fatalf("P21.1: Compute: %d", e)
	}
	want := w.computeRead(size)
	for i := range first {
		for k := range first[i].Lines {
			clear(first[i].Lines[k].Glyphs)
		}
		clear(first[i].Lines)
	}
	clear(first)
	clear(Shown(w.t, w.st))
	n, _ := view.Find(w.t, 3)
	q := Paragraph(n, w.st[2].Style, 1, 9)
	clear(q.Text)
	clear(q.Spans)
	again, e := Compute(w.t, w.st, w.fonts, size)
	if e != api.OK || !sameBoxes(again, want) {
		t.Errorf("R2: Compute now returns %+v, %d, want %+v", again, e, want)
	}
	if l := Shown(w.t, w.st); !slices.Equal(l, []int{1, 2, 3, 4}) {
		t.Errorf("R2: Shown now returns %v", l)
	}
	if q := Paragraph(n, w.st[2].Style, 1, 9); string(q.Text) != "ab cd" || q.Spans[0] != (api.Span{To: 5, Size: 12}) {
		t.Errorf("R2: Paragraph now returns %v", q)
	}
}

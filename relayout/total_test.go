package relayout

import (
	"math"
	"reflect"
	"slices"
	"testing"

	"widgetry/api"
	"widgetry/layout"
)

// spoiled is what makes one condition of P21.1 apply to the screen.
type spoiled struct {
	name  string
	e     api.Errno
	spoil func(w *world)
}

// conditions are the conditions of P21.1.
func conditions() []spoiled {
	return []spoiled{
		{"the tree", api.ErrState, func(w *world) { w.t.Next = 5 }},
		{"a node", api.ErrKind, func(w *world) { w.t.Nodes[3].Kind = 0 }},
		{"a style is missing", api.ErrMissing, func(w *world) { w.st = w.st[1:] }},
		{"a value of a style", api.ErrRange, func(w *world) { w.style(aLast)[api.PropFontSize] = 0 }},
		{"the width", api.ErrRange, func(w *world) { w.size.W = -1 }},
		{"the height", api.ErrRange, func(w *world) { w.size.H = api.MaxLength + 1 }},
		{"too many children of a place", api.ErrTooLong, func(w *world) {
			w.style(aGroup)[api.PropDisplay] = api.DisplayPlace
			for range api.MaxVars / 2 {
				w.add(aGroup, api.Node{Kind: api.KindImage})
			}
		}},
		{"a rectangle", api.ErrRange, func(w *world) {
			w.style(aHeading)[api.PropMinWidth], w.style(anImage)[api.PropMinWidth] = api.MaxLength, api.MaxLength
		}},
		{"no font", api.ErrTooLong, func(w *world) { w.fonts = nil }},
		{"too many fonts", api.ErrTooLong, func(w *world) { w.fonts = slices.Repeat(w.fonts, api.MaxFonts+1) }},
		{"a font", api.ErrOrder, func(w *world) {
			bad := square
			bad.Kerns = []api.Kern{{A: 'b'}, {A: 'a'}}
			w.fonts = append(slices.Clone(w.fonts), bad)
		}},
	}
}

func isZero(l api.Layout) bool { return reflect.ValueOf(l).IsZero() }

// TestErrors makes each condition of P21.1 apply, and each two of them.
func TestErrors(t *testing.T) {
	for i, a := range conditions() {
		for k, b := range conditions()[i:] {
			w := screen(t)
			l := begin(t, w)
			b.spoil(&w)
			a.spoil(&w)
			_, want := layout.Compute(w.t, w.st, w.fonts, w.size)
			if k == 0 && want != a.e {
				t.Errorf("P21.1: %s: Compute: %d, want %d", a.name, want, a.e)
			}
			if got, e := Begin(w.t, w.st, w.fonts, w.size); e == api.OK || e != want || !isZero(got) {
				t.Errorf("P22.1: %s and %s: Begin = %s, %d, want %d", a.name, b.name, show(got), e, want)
			}
			l.Fonts = w.fonts
			if got, n, e := Update(l, w.t, w.st, w.size); e == api.OK || e != want || n != 0 || !isZero(got) {
				t.Errorf("P22.2: %s and %s: Update = %s, %d, %d, want %d", a.name, b.name, show(got), n, e, want)
			}
		}
	}
}

// TestOtherLayouts updates layouts that are no results of this package: whatever they are, the new layout depends on their fonts only.
func TestOtherLayouts(t *testing.T) {
	w := screen(t)
	good := begin(t, w)
	for i, spoil := range []func(l *api.Layout){
		func(l *api.Layout) { l.Tree = api.Tree{} },
		func(l *api.Layout) { l.Tree.Nodes = l.Tree.Nodes[:3] },
		func(l *api.Layout) { l.Tree.Nodes = slices.Repeat(l.Tree.Nodes, 3) },
		func(l *api.Layout) { l.Tree.Nodes[1].Attrs = nil },
		func(l *api.Layout) { l.Tree.Nodes[1].Attrs[0].Value = endless(3) },
		func(l *api.Layout) { l.Tree.Nodes[1].ID = math.MinInt },
		func(l *api.Layout) { l.Tree.Nodes[1].Kids = []int{1, 2} },
		func(l *api.Layout) { l.Styles = nil },
		func(l *api.Layout) { l.Styles = l.Styles[2:] },
		func(l *api.Layout) { slices.Reverse(l.Styles) },
		func(l *api.Layout) { l.Boxes = nil },
		func(l *api.Layout) { l.Boxes = slices.Repeat(l.Boxes, 3) },
		func(l *api.Layout) { l.Boxes[1].Rect.W = math.MinInt },
		func(l *api.Layout) { l.Boxes[1].ID = 99 },
		func(l *api.Layout) { slices.Reverse(l.Boxes) },
		func(l *api.Layout) { l.Size = api.Size{W: -1, H: math.MaxInt} },
	} {
		l := begin(t, screen(t))
		spoil(&l)
		if got, n, e := Update(l, w.t, w.st, w.size); e != api.OK || n < 0 || n > 5 || show(got) != show(good) {
			t.Errorf("R1: the layout %d: Update = %s, %d, %d", i, show(got), n, e)
		}
	}
	if got, n, e := Update(api.Layout{}, w.t, w.st, w.size); e != api.ErrTooLong || n != 0 || !isZero(got) {
		t.Errorf("R1: the zero layout: Update = %s, %d, %d", show(got), n, e)
	}
	if got, n, e := Update(api.Layout{Fonts: w.fonts}, w.t, w.st, w.size); e != api.OK || n != 5 || show(got) != show(good) {
		t.Errorf("R1: fonts only: Update = %s, %d, %d", show(got), n, e)
	}
}

// endless returns a list that contains itself.
func endless(n int) api.Value {
	l := make([]api.Value, n)
	for i := range l {
		l[i] = list(l...)
	}
	return l[0]
}

// TestEndless passes trees with a value that contains itself (R1).
func TestEndless(t *testing.T) {
	for _, n := range []int{1, 2, 1000} {
		for _, name := range []string{"class", "columns", "text"} {
			w := screen(t)
			l := begin(t, w)
			w.set(aLabel, name, endless(n))
			if got, e := Begin(w.t, w.st, w.fonts, w.size); e == api.OK || !isZero(got) {
				t.Errorf("R1: Begin of an endless value = %s, %d", show(got), e)
			}
			if got, n, e := Update(l, w.t, w.st, w.size); e == api.OK || n != 0 || !isZero(got) {
				t.Errorf("R1: Update with an endless value = %s, %d, %d", show(got), n, e)
			}
		}
	}
}

// area is the memory of a slice.
type area struct{ from, to uintptr }

// areasOf returns the memory of all slices that can be reached from a value.
func areasOf(v reflect.Value) []area {
	var l []area
	switch v.Kind() {
	case reflect.Struct:
		for i := range v.NumField() {
			l = append(l, areasOf(v.Field(i))...)
		}
	case reflect.Slice:
		if v.Cap() > 0 {
			l = append(l, area{v.Pointer(), v.Pointer() + uintptr(v.Cap())*v.Type().Elem().Size()})
		}
		for i := range v.Len() {
			l = append(l, areasOf(v.Index(i))...)
		}
	}
	return l
}

// testMemory checks that no two slices of a layout share memory, and none shares memory with an argument (R2).
func testMemory(t *testing.T, l api.Layout, arguments ...any) {
	t.Helper()
	own := areasOf(reflect.ValueOf(l))
	var other []area
	for _, x := range arguments {
		other = append(other, areasOf(reflect.ValueOf(x))...)
	}
	for i, a := range own {
		for _, b := range append(own[:i:i], other...) {
			if a.from < b.to && b.from < a.to {
				t.Fatalf("R2: a layout shares memory: %s", show(l))
			}
		}
	}
}

// TestMemory looks for memory that results share, and for arguments that have changed (R2).
func TestMemory(t *testing.T) {
	w := screen(t)
	font := square
	font.Advances = []api.Advance{{From: 'a', To: 'c', Width: 17}}
	font.Kerns = []api.Kern{{A: 'a', B: 'b', D: -4}}
	font.Ligatures = []api.Ligature{{A: 'e', B: 'f', Glyph: 0x110000, Width: 20}}
	// Both fonts and two of the nodes share lists.
	w.fonts = []api.Font{font, font}
	w.node(aLast).Attrs = w.node(aLabel).Attrs
	w.node(aLabel).Actions = []api.Action{{Event: "press", Handler: "go", Args: []api.Value{list(num(1))}}}
	w.node(aLast).Actions = w.node(aLabel).Actions
	before := show(w)
	l, e := Begin(w.t, w.st, w.fonts, w.size)
	if e != api.OK {
		t.Fatalf("P22.1: Begin: %d", e)
	}
	testMemory(t, l, w.t, w.st, w.fonts)
	kept := show(l)
	for range 2 {
		updated, n, e := Update(l, w.t, w.st, w.size)
		if n != 0 || e != api.OK || show(updated) != kept {
			t.Fatalf("P22.3: Update = %s, %d, %d, want %s", show(updated), n, e, kept)
		}
		testMemory(t, updated, l, w.t, w.st, w.fonts)
		// The parts of the layout may be passed in again.
		again, n, e := Update(l, l.Tree, l.Styles, l.Size)
		if n != 0 || e != api.OK || show(again) != kept {
			t.Fatalf("P22.3: Update with the parts of the layout = %s, %d, %d, want %s", show(again), n, e, kept)
		}
		testMemory(t, again, l, updated)
	}
	if after := show(w); after != before {
		t.Errorf("R2: %s has become %s", before, after)
	}
	if after := show(l); after != kept {
		t.Errorf("R2: the layout %s has become %s", kept, after)
	}
}

// TestLargest updates a tree with as many nodes as possible.
func TestLargest(t *testing.T) {
	var groups []api.View
	for range 7 {
		groups = append(groups, group(slices.Repeat([]api.View{textView(api.KindLabel, "ab cd")}, 56)...))
	}
	w := worldOf(t, group(groups...))
	if len(w.t.Nodes) != api.MaxNodes {
		t.Fatalf("there are %d nodes", len(w.t.Nodes))
	}
	l := begin(t, w)
	l = expect(t, "the largest tree", l, w, 0)
	w.set(api.MaxNodes, "text", words("x"))
	l = expect(t, "the last node", l, w, 1)
	w.size.W--
	expect(t, "the width", l, w, 392)
}

package layout

import (
	"math"
	"slices"
	"testing"

	"widgetry/api"
)

// TestBoxBaselines compares the baselines of boxes, which depend on their rectangles.
func TestBoxBaselines(t *testing.T) {
	a, b := label("ab", nil), image(9, 30, nil)
	spanned := label("a b", nil).with("spans", list(numbers(0, 2, 0, 10), numbers(2, 3, 0, 20))) // 40 wide
	low := props{api.PropPadTop: 5}
	for _, x := range []struct {
		name string
		p    part
		h    int
		want []int // of all boxes
	}{
		{"a text", label("ab", low), 50, []int{13}},
		{"a low text", label("ab", low), 0, []int{13}},
		{"a text whose first line contains all spans", spanned, 5, []int{16}},
		{"a text whose first line contains one span", spanned.styled(api.PropPadEnd, 11), 5, []int{8}},
		{"a figure", b, 50, []int{50}},
		{"an empty group", column(low), 50, []int{50}},
		{"a group whose child is not shown", column(low, a.with("hidden", truth(1))), 50, []int{50}},
		{"a column", column(low, a, b), 50, []int{13, 8, 30}},
		{"a column at the end", column(plus(low, api.PropJustify, api.AlignEnd), a, b), 50, []int{18, 8, 30}},
		{"a column above its top", column(props{api.PropJustify: api.AlignEnd}, a, b), 5, []int{-27, 8, 30}},
		{"the first child that is shown", column(low, b.with("hidden", truth(1)), a, b), 50, []int{13, 8, 30}},
		{"a stretched figure", row(low, b, a), 50, []int{50, 45, 8}},
		{"a row at the bottom", row(plus(low, api.PropAlign, api.AlignEnd), a, b), 50, []int{48, 8, 30}},
		{"a row that aligns baselines", row(plus(low, api.PropAlign, api.AlignBaseline), a, b), 50, []int{35, 8, 30}},
		{"a grid", gridOf(low, []int{20, 20}, image(9, 3, nil), b), 50, []int{35, 30, 30}},
		{"a place", place(low, a.tie("above", "b"), b.named("b")), 50, []int{43, 8, 30}},
		{"a scrolling node", scroll(plus(low, api.PropJustify, api.AlignEnd), a, b), 50, []int{13, 8, 30}},
		{"groups in groups", column(low, column(low, column(low), a), b), 50, []int{15, 10, 5, 8, 30}},
	} {
		var got []int
		for _, b := range x.p.boxes(t, api.Size{W: 50, H: x.h}) {
			got = append(got, b.Baseline)
		}
		if !slices.Equal(got, x.want) {
			t.Errorf("P21.9: %s: the baselines are %v, want %v", x.name, got, x.want)
		}
	}
}

func TestAbsolute(t *testing.T) {
	w := column(nil, row(nil, image(1, 1, nil), image(1, 1, nil)), row(nil)).world(t)
	l := []api.Box{{ID: 4, Rect: rect(1, 2, 3, 4)}, {ID: 2, Rect: rect(10, 20, 30, 40)}, {ID: 1, Rect: rect(100, 200, 300, 400)}, {ID: 5, Rect: rect(-7, -8, 9, 9)}, {ID: 2, Rect: rect(5, 5, 5, 5)}}
	for id, want := range map[int]api.Rect{1: rect(100, 200, 300, 400), 2: rect(110, 220, 30, 40), 3: {}, 4: rect(111, 222, 3, 4), 5: rect(93, 192, 9, 9), 6: {}, 0: {}} {
		if r := Absolute(w.t, l, id); r != want {
			t.Errorf("P21.9: Absolute of %d = %v, want %v", id, r, want)
		}
	}
	// Without the box of the root, or of the parent.
	for _, missing := range []int{1, 2} {
		less := slices.DeleteFunc(slices.Clone(l), func(b api.Box) bool { return b.ID == missing })
		if r := Absolute(w.t, less, 4); r != (api.Rect{}) {
			t.Errorf("P21.9: without the box of %d Absolute is %v", missing, r)
		}
	}
	if r := Absolute(w.t, nil, 1); r != (api.Rect{}) {
		t.Errorf("P21.9: without boxes Absolute is %v", r)
	}
	bad := w.t
	bad.Next = 3
	if r := Absolute(bad, l, 1); r != (api.Rect{}) {
		t.Errorf("P21.1: Absolute of a tree that is not valid is %v", r)
	}
	for _, n := range []int{math.MinInt, math.MaxInt} {
		Absolute(w.t, []api.Box{{ID: 1, Rect: rect(n, n, n, n)}, {ID: 2, Rect: rect(n, n, n, n)}}, 2)
	}
}

// TestAbsoluteOfLayouts adds the rectangles of the boxes of a layout from the outside to the inside.
func TestAbsoluteOfLayouts(t *testing.T) {
	p := column(pads, row(pads, image(20, 10, nil), label("ab", nil)), image(5, 5, nil).with("hidden", truth(1)))
	w := p.world(t)
	l, e := Compute(w.t, w.st, w.fonts, api.Size{W: 100, H: 100})
	want := map[int]api.Rect{1: rect(0, 0, 100, 100), 2: rect(3, 4, 90, 20), 3: rect(6, 8, 20, 10), 4: rect(31, 8, 20, 10), 5: {}}
	for id, r := range want {
		if got := Absolute(w.t, l, id); e != api.OK || got != r {
			t.Errorf("P21.9: Absolute of %d = %v, %d, want %v", id, got, e, r)
		}
	}
}

// TestDeepBoxes computes nested layouts in which everything depends on baselines. Without keeping what is known, the time would grow with each level by a factor.
func TestDeepBoxes(t *testing.T) {
	for display := api.DisplayColumn; display <= api.DisplayPlace; display++ {
		for align := api.AlignStart; align <= api.AlignBaseline; align++ {
			p := label("ab cd", nil)
			for range api.MaxDepth - 2 {
				p = group(display, props{api.PropAlign: align, api.PropPadTop: 1}, p, label("ef", nil))
			}
			rows := row(props{api.PropAlign: api.AlignBaseline}, p, image(5, 5, nil))
			if l := rows.boxes(t, api.Size{W: 500, H: 500}); len(l) != 31 {
				t.Errorf("P21.9: there are %d boxes", len(l))
			}
			w := rows.world(t)
			Least(w.t, w.st, w.fonts, 1)
			Most(w.t, w.st, w.fonts, 1)
			Height(w.t, w.st, w.fonts, 1, 50)
		}
	}
}

package layout

import (
	"slices"
	"testing"

	"widgetry/api"
)

func TestGrids(t *testing.T) {
	a, b, c, d := image(10, 10, nil), image(30, 10, nil), image(5, 7, nil), image(12, 9, nil).with("span", num(2))
	// The columns are 20, 30 and 90 - 10 - 50 = 30 wide.
	mixed := gridOf(pads, []int{20, 0, -1}, a, b, c, d)
	testRects(t, "P21.7: a grid", mixed, 100, 100, rect(3, 4, 20, 10), rect(28, 4, 30, 10), rect(63, 4, 30, 10), rect(3, 19, 55, 9))
	testRects(t, "P21.7: a grid from the right", mixed.styled(api.PropDirection, 1), 100, 100, rect(77, 4, 20, 10), rect(42, 4, 30, 10), rect(7, 4, 30, 10), rect(42, 19, 55, 9))
	testHeight(t, "P21.7: a grid", mixed, 100, 34)
	// Neither the height nor the alignment matters.
	testRects(t, "P21.7: a low grid", mixed.styled(api.PropAlign, api.AlignEnd).styled(api.PropJustify, api.AlignEnd), 100, 3, rect(3, 4, 20, 10), rect(28, 4, 30, 10), rect(63, 4, 30, 10), rect(3, 19, 55, 9))
	testRects(t, "P21.7: a narrow grid", mixed, 20, 50, rect(3, 4, 20, 10), rect(28, 4, 30, 10), rect(63, 4, 5, 10), rect(3, 19, 55, 9))
	testRects(t, "P21.7: a narrow grid from the right", mixed.styled(api.PropDirection, 1), 20, 50, rect(-3, 4, 20, 10), rect(-38, 4, 30, 10), rect(-48, 4, 5, 10), rect(-38, 19, 55, 9))
	testRects(t, "P21.7: texts", gridOf(nil, []int{0, 0}, label("ab cd", nil), label("abc d", nil)), 80, 50, rect(0, 0, 38, 20), rect(38, 0, 42, 20))
	testRects(t, "P21.7: texts with room", gridOf(nil, []int{0, 0}, label("ab cd", nil), label("abc d", nil)), 100, 50, rect(0, 0, 50, 10), rect(50, 0, 50, 10))
	testRects(t, "P21.7: fractions", gridOf(nil, []int{-1, -3}, a, a), 80, 50, rect(0, 0, 20, 10), rect(20, 0, 60, 10))
	testRects(t, "P21.7: the greatest fraction", gridOf(nil, []int{-1000, -1000}, a, a), 80, 50, rect(0, 0, 40, 10), rect(40, 0, 40, 10))
	testRects(t, "P21.7: the greatest column", gridOf(nil, []int{far, 7}, a, a), 80, 50, rect(0, 0, far, 10), rect(far, 0, 7, 10))
}

// TestGridRows compares the heights of the rows of grids, in which the limits of children do not count.
func TestGridRows(t *testing.T) {
	limits := props{api.PropMaxHeight: 5, api.PropMaxWidth: 3, api.PropGrow: 1, api.PropBasis: 77}
	low, high := image(10, 20, limits), image(10, 12, props{api.PropMinWidth: 90})
	p := gridOf(props{api.PropGap: 2}, []int{30, 40}, low, high, low, low.with("span", num(2)), high)
	testRects(t, "P21.7: rows", p, 100, 10, rect(0, 0, 30, 12), rect(32, 0, 40, 12), rect(0, 14, 30, 5), rect(0, 21, 72, 5), rect(0, 28, 30, 12))
	testHeight(t, "P21.7: rows", p, 100, 40)
	// The height is that for the width of the columns.
	p = gridOf(nil, []int{20, 30}, label("ab cd", nil), label("ab cd", nil).with("span", num(2)))
	testRects(t, "P21.7: the heights of texts", p, 100, 10, rect(0, 0, 20, 20), rect(0, 20, 50, 10))
}

// TestColumnLists passes lists that describe columns and others.
func TestColumnLists(t *testing.T) {
	one := []api.Rect{rect(0, 0, 80, 10), rect(0, 10, 80, 10)}
	many := make([]int, api.MaxTracks)
	many[0], many[1], many[2] = 20, 5, -1
	for _, x := range []struct {
		name string
		v    api.Value
		want []api.Rect
	}{
		{"two", numbers(20, 30), []api.Rect{rect(0, 0, 20, 10), rect(20, 0, 30, 10)}},
		{"one", numbers(20), []api.Rect{rect(0, 0, 20, 10), rect(0, 10, 20, 10)}},
		{"as many as possible", numbers(many...), []api.Rect{rect(0, 0, 20, 10), rect(20, 0, 5, 10)}},
		{"too many", numbers(append(many, 5)...), one},
		{"none", list(), one},
		{"a number", num(20), one},
		{"texts", list(text("20"), text("30")), one},
		{"bools", list(truth(1), truth(1)), one},
		{"lists", list(numbers(20), numbers(30)), one},
		{"the least number", numbers(30, -1000), []api.Rect{rect(0, 0, 30, 10), rect(30, 0, 50, 10)}},
		{"too small", numbers(30, -1001), one},
		{"the greatest number", numbers(30, far), []api.Rect{rect(0, 0, 30, 10), rect(30, 0, far, 10)}},
		{"too great", numbers(30, far+1), one},
	} {
		p := group(api.DisplayGrid, nil, image(10, 10, nil), image(10, 10, nil)).with("columns", x.v)
		testRects(t, "P21.7: columns: "+x.name, p, 80, 50, x.want...)
	}
	testRects(t, "P21.7: no columns", group(api.DisplayGrid, nil, image(10, 10, nil), image(10, 10, nil)), 80, 50, one...)
	// Other layouts have no columns.
	testRects(t, "P21.7: columns of a column", column(nil, image(10, 10, nil), image(10, 10, nil)).with("columns", numbers(20, 30)), 80, 50, one...)
}

// TestItemSpans passes numbers of columns that children cover.
func TestItemSpans(t *testing.T) {
	for _, x := range []struct {
		v    api.Value
		want []int // the widths of two children with this span
		rows bool  // whether the second one is below the first one
	}{
		{num(1), []int{10, 20}, false},
		{num(2), []int{30, 30}, true},
		{num(3), []int{60, 60}, true},
		{num(4), []int{60, 60}, true},
		{num(1 << 40), []int{60, 60}, true},
		{num(0), []int{10, 20}, false},
		{num(-1 << 40), []int{10, 20}, false},
		{text("2"), []int{10, 20}, false},
		{truth(1), []int{10, 20}, false},
	} {
		kid := image(1, 7, nil).with("span", x.v)
		want := []api.Rect{rect(0, 0, x.want[0], 7), rect(10, 0, x.want[1], 7)}
		if x.rows {
			want[1].X, want[1].Y = 0, 7
		}
		testRects(t, "P21.7: spans", gridOf(nil, []int{10, 20, 30}, kid, kid), 80, 50, want...)
	}
	// Only children that are shown have areas.
	hidden := image(1, 7, nil).with("hidden", truth(1))
	testRects(t, "P21.7: a child that is not shown", gridOf(nil, []int{10, 20}, hidden, image(1, 7, nil), hidden, image(1, 7, nil)), 80, 50, rect(0, 0, 10, 7), rect(10, 0, 20, 7))
}

// TestLongGrid has more rows than a grid can have columns.
func TestLongGrid(t *testing.T) {
	p := gridOf(props{api.PropGap: 1}, []int{10}, slices.Repeat([]part{image(1, 7, nil)}, api.MaxKids)...)
	boxes := p.boxes(t, api.Size{W: 10, H: 10})
	if r := boxes[api.MaxKids].Rect; r != rect(0, 99*8, 10, 7) {
		t.Errorf("P21.7: the last one of %d rows has the rectangle %v", api.MaxKids, r)
	}
	testHeight(t, "P21.7: many rows", p, 10, 100*8-1)
}

package layout

import (
	"testing"

	"widgetry/api"
)

// rect returns a rectangle.
func rect(x, y, w, h int) api.Rect { return api.Rect{X: x, Y: y, W: w, H: h} }

// pads leave a rectangle of 90 to 90 free in one of 100 to 100.
var pads = props{api.PropPadStart: 3, api.PropPadTop: 4, api.PropPadEnd: 7, api.PropPadBottom: 6, api.PropGap: 5}

func TestColumns(t *testing.T) {
	a, b := image(20, 10, nil), image(30, 20, nil)
	in := func(prop, n int) part { return column(plus(pads, prop, n), a, b) }
	right := func(prop, n int) part { return in(prop, n).styled(api.PropDirection, 1) }
	for _, x := range []struct {
		name string
		p    part
		want []api.Rect
	}{
		{"stretch", in(api.PropAlign, api.AlignStretch), []api.Rect{rect(3, 4, 90, 10), rect(3, 19, 90, 20)}},
		{"start", in(api.PropAlign, api.AlignStart), []api.Rect{rect(3, 4, 20, 10), rect(3, 19, 30, 20)}},
		{"end", in(api.PropAlign, api.AlignEnd), []api.Rect{rect(73, 4, 20, 10), rect(63, 19, 30, 20)}},
		{"center", in(api.PropAlign, api.AlignCenter), []api.Rect{rect(38, 4, 20, 10), rect(33, 19, 30, 20)}},
		{"baseline", in(api.PropAlign, api.AlignBaseline), []api.Rect{rect(3, 4, 20, 10), rect(3, 19, 30, 20)}},
		{"stretch from the right", right(api.PropAlign, api.AlignStretch), []api.Rect{rect(7, 4, 90, 10), rect(7, 19, 90, 20)}},
		{"start from the right", right(api.PropAlign, api.AlignStart), []api.Rect{rect(77, 4, 20, 10), rect(67, 19, 30, 20)}},
		{"end from the right", right(api.PropAlign, api.AlignEnd), []api.Rect{rect(7, 4, 20, 10), rect(7, 19, 30, 20)}},
		{"center from the right", right(api.PropAlign, api.AlignCenter), []api.Rect{rect(42, 4, 20, 10), rect(37, 19, 30, 20)}},
		{"baseline from the right", right(api.PropAlign, api.AlignBaseline), []api.Rect{rect(77, 4, 20, 10), rect(67, 19, 30, 20)}},
		{"at the end", in(api.PropJustify, api.AlignEnd), []api.Rect{rect(3, 59, 90, 10), rect(3, 74, 90, 20)}},
		{"in the middle", in(api.PropJustify, api.AlignCenter), []api.Rect{rect(3, 31, 90, 10), rect(3, 46, 90, 20)}},
		{"at both ends", in(api.PropJustify, api.JustifyBetween), []api.Rect{rect(3, 4, 90, 10), rect(3, 74, 90, 20)}},
		{"at both ends from the right", right(api.PropJustify, api.JustifyBetween), []api.Rect{rect(7, 4, 90, 10), rect(7, 74, 90, 20)}},
	} {
		testRects(t, "P21.6: a column: "+x.name, x.p, 100, 100, x.want...)
	}
	testRects(t, "P21.6: an odd space", column(props{api.PropAlign: api.AlignCenter, api.PropDirection: 1}, a), 51, 10, rect(16, 0, 20, 10))
	testRects(t, "P21.6: a column without room", column(pads, a, b), 9, 5, rect(3, 4, 0, 10), rect(3, 19, 0, 20))
	testRects(t, "P21.6: an overflow to both sides", column(props{api.PropAlign: api.AlignCenter, api.PropJustify: api.AlignCenter}, image(20, 10, props{api.PropMinWidth: 20})), 11, 5, rect(-5, -3, 20, 10))
}

// TestColumnWidths compares the widths of the children of columns, which may be limited.
func TestColumnWidths(t *testing.T) {
	limited := func(low, high int) part { return label("ab cd", props{api.PropMinWidth: low, api.PropMaxWidth: high}) }
	for _, x := range []struct {
		align, low, high, w int
		want                api.Rect
	}{
		{api.AlignStretch, 0, far, 70, rect(0, 0, 70, 10)},
		{api.AlignStretch, 0, far, 30, rect(0, 0, 30, 20)},
		{api.AlignStretch, 0, 45, 70, rect(0, 0, 45, 20)},
		{api.AlignStretch, 80, far, 70, rect(0, 0, 80, 10)},
		{api.AlignStretch, 80, 45, 70, rect(0, 0, 80, 10)},
		{api.AlignStart, 0, far, 70, rect(0, 0, 50, 10)},
		{api.AlignStart, 0, far, 30, rect(0, 0, 30, 20)},
		{api.AlignStart, 0, 45, 70, rect(0, 0, 45, 20)},
		{api.AlignStart, 60, far, 70, rect(0, 0, 60, 10)},
		{api.AlignStart, 60, far, 30, rect(0, 0, 60, 10)},
		{api.AlignCenter, 0, far, 70, rect(10, 0, 50, 10)},
		{api.AlignEnd, 0, 45, 70, rect(25, 0, 45, 20)},
		{api.AlignBaseline, 0, far, 70, rect(0, 0, 50, 10)},
	} {
		p := props{api.PropAlign: x.align}
		testRects(t, "P21.5: the column width", column(p, limited(x.low, x.high)), x.w, 100, x.want)
		testHeight(t, "P21.5: a column", column(p, limited(x.low, x.high)), x.w, x.want.H)
	}
	testRects(t, "P21.6: a child that is too narrow", column(props{api.PropDirection: 1}, limited(0, 45)), 70, 100, rect(25, 0, 45, 20))
}

// TestColumnHeights compares the heights of the children of columns, which grow and shrink.
func TestColumnHeights(t *testing.T) {
	with := func(h int, p props) part { return image(9, h, p) }
	for _, x := range []struct {
		name string
		l    []part
		h    int
		want []int
	}{
		{"no growth", []part{with(10, nil), with(20, nil)}, 90, []int{10, 20}},
		{"growth", []part{with(10, props{api.PropGrow: 1}), with(20, props{api.PropGrow: 2})}, 90, []int{28, 57}},
		{"growth of one", []part{with(10, nil), with(20, props{api.PropGrow: 2})}, 90, []int{10, 75}},
		{"growth with a limit", []part{with(10, props{api.PropGrow: 1, api.PropMaxHeight: 15}), with(20, props{api.PropGrow: 1})}, 90, []int{15, 70}},
		{"a basis", []part{with(10, props{api.PropBasis: 40}), with(20, props{api.PropBasis: 5})}, 90, []int{40, 5}},
		{"a basis of 0", []part{with(10, props{api.PropBasis: 0, api.PropGrow: 1}), with(20, props{api.PropBasis: 0, api.PropGrow: 1})}, 90, []int{43, 42}},
		{"a basis that shrinks", []part{with(10, props{api.PropBasis: 60}), with(20, props{api.PropBasis: 30})}, 50, []int{30, 15}},
		{"a basis that does not shrink", []part{with(10, props{api.PropBasis: 60, api.PropShrink: 0}), with(20, props{api.PropBasis: 30})}, 50, []int{60, 0}},
		{"a basis that shrinks to a limit", []part{with(10, props{api.PropBasis: 60, api.PropMinHeight: 40}), with(20, props{api.PropBasis: 30})}, 50, []int{40, 5}},
		{"contents do not shrink", []part{with(10, nil), with(20, nil)}, 20, []int{10, 20}},
		{"contents are cut to the greatest height", []part{with(10, props{api.PropMaxHeight: 6}), with(20, nil)}, 90, []int{6, 20}},
		{"a content is less than the least height", []part{with(10, props{api.PropMinHeight: 36}), with(20, nil)}, 20, []int{36, 20}},
		{"only one shrinks", []part{with(10, nil), with(20, props{api.PropBasis: 30})}, 25, []int{10, 10}},
	} {
		w := column(props{api.PropGap: 5}, x.l...)
		testRects(t, "P21.6: the heights in a column: "+x.name, w, 50, x.h, rect(0, 0, 50, x.want[0]), rect(0, x.want[0]+5, 50, x.want[1]))
	}
}

// TestScroll compares the rectangles in scrolling nodes.
func TestScroll(t *testing.T) {
	kids := []part{image(20, 30, props{api.PropGrow: 1}), label("ab cd", props{api.PropBasis: 50}), image(20, 7, props{api.PropBasis: 1, api.PropMinHeight: 9})}
	want := []api.Rect{rect(3, 4, 40, 30), rect(3, 39, 40, 20), rect(3, 64, 40, 9)}
	for display := api.DisplayColumn; display <= api.DisplayPlace; display++ {
		for justify := api.AlignStart; justify <= api.JustifyBetween; justify++ {
			p := plus(plus(pads, api.PropDisplay, display), api.PropJustify, justify)
			testRects(t, "P21.6: a scrolling node", scroll(p, kids...), 50, 200, want...)
			testRects(t, "P21.6: a low scrolling node", scroll(plus(p, api.PropBasis, 33), kids...), 50, 20, want...)
		}
	}
	p := plus(plus(pads, api.PropAlign, api.AlignEnd), api.PropDirection, 1)
	testRects(t, "P21.6: a scrolling node that aligns", scroll(p, kids...), 80, 20, rect(7, 4, 20, 30), rect(7, 39, 50, 10), rect(7, 54, 20, 9))
	// In another column it is as high as its basis says.
	testRects(t, "P21.6: a scrolling node in a column", column(nil, scroll(props{api.PropBasis: 12, api.PropPadTop: 2}, kids[0]), kids[0]), 50, 50, rect(0, 0, 50, 12), rect(0, 2, 50, 30), rect(0, 12, 50, 38))
	testRects(t, "P21.6: a scrolling node in a row", row(props{api.PropAlign: api.AlignEnd}, scroll(props{api.PropBasis: 12, api.PropPadTop: 2}, kids[0])), 50, 50, rect(0, 36, 20, 14), rect(0, 2, 20, 30))
}

func TestRows(t *testing.T) {
	a, b := label("ab", nil), label("ab cd", nil) // 20, and 20 to 50
	in := func(prop, n int) part { return row(plus(pads, prop, n), a, b) }
	right := func(prop, n int) part { return in(prop, n).styled(api.PropDirection, 1) }
	for _, x := range []struct {
		name string
		p    part
		want []api.Rect
	}{
		{"start", in(api.PropJustify, api.AlignStart), []api.Rect{rect(3, 4, 20, 90), rect(28, 4, 50, 90)}},
		{"end", in(api.PropJustify, api.AlignEnd), []api.Rect{rect(18, 4, 20, 90), rect(43, 4, 50, 90)}},
		{"center", in(api.PropJustify, api.AlignCenter), []api.Rect{rect(10, 4, 20, 90), rect(35, 4, 50, 90)}},
		{"between", in(api.PropJustify, api.JustifyBetween), []api.Rect{rect(3, 4, 20, 90), rect(43, 4, 50, 90)}},
		{"start from the right", right(api.PropJustify, api.AlignStart), []api.Rect{rect(77, 4, 20, 90), rect(22, 4, 50, 90)}},
		{"end from the right", right(api.PropJustify, api.AlignEnd), []api.Rect{rect(62, 4, 20, 90), rect(7, 4, 50, 90)}},
		{"center from the right", right(api.PropJustify, api.AlignCenter), []api.Rect{rect(70, 4, 20, 90), rect(15, 4, 50, 90)}},
		{"between from the right", right(api.PropJustify, api.JustifyBetween), []api.Rect{rect(77, 4, 20, 90), rect(7, 4, 50, 90)}},
		{"at the top", in(api.PropAlign, api.AlignStart), []api.Rect{rect(3, 4, 20, 10), rect(28, 4, 50, 10)}},
		{"at the bottom", in(api.PropAlign, api.AlignEnd), []api.Rect{rect(3, 84, 20, 10), rect(28, 84, 50, 10)}},
		{"in the middle", in(api.PropAlign, api.AlignCenter), []api.Rect{rect(3, 44, 20, 10), rect(28, 44, 50, 10)}},
		{"at the baseline", in(api.PropAlign, api.AlignBaseline), []api.Rect{rect(3, 4, 20, 10), rect(28, 4, 50, 10)}},
	} {
		testRects(t, "P21.6: a row: "+x.name, x.p, 100, 100, x.want...)
	}
	testRects(t, "P21.6: a row without room", row(pads, a, b), 9, 5, rect(3, 4, 20, 0), rect(28, 4, 20, 0))
	testRects(t, "P21.6: an overflow to both sides", row(props{api.PropAlign: api.AlignCenter, api.PropJustify: api.AlignCenter}, image(20, 10, nil)), 11, 5, rect(-5, -3, 20, 10))
}

// TestRowWidths compares the widths of the children of rows, which grow and shrink.
func TestRowWidths(t *testing.T) {
	ab := func(p props) part { return label("ab", p) }      // 20
	abcd := func(p props) part { return label("ab cd", p) } // 20 to 50
	for _, x := range []struct {
		name string
		l    []part
		w    int
		want []int
		h    int
	}{
		{"no growth", []part{ab(nil), abcd(nil)}, 90, []int{20, 50}, 10},
		{"growth", []part{ab(props{api.PropGrow: 1}), abcd(props{api.PropGrow: 2})}, 90, []int{25, 60}, 10},
		{"growth with a limit", []part{ab(props{api.PropGrow: 1, api.PropMaxWidth: 22}), abcd(props{api.PropGrow: 2})}, 90, []int{22, 63}, 10},
		{"shrinking to the least width", []part{ab(nil), abcd(nil)}, 60, []int{20, 35}, 20},
		{"no shrinking", []part{ab(nil), abcd(props{api.PropShrink: 0})}, 60, []int{20, 50}, 10},
		{"shrinking to another limit", []part{ab(nil), abcd(props{api.PropMinWidth: 40})}, 60, []int{20, 40}, 20},
		{"a limit below the least width", []part{ab(nil), abcd(props{api.PropMinWidth: 10})}, 30, []int{20, 20}, 20},
		{"a greatest width below the least one", []part{ab(props{api.PropMaxWidth: 15}), abcd(nil)}, 90, []int{15, 50}, 20},
		{"a basis", []part{ab(props{api.PropBasis: 33}), abcd(props{api.PropBasis: 22})}, 90, []int{33, 22}, 20},
		{"a basis below the least width", []part{ab(props{api.PropBasis: 3}), abcd(props{api.PropBasis: 0})}, 90, []int{20, 20}, 20},
		{"a basis of 0 that grows", []part{ab(props{api.PropBasis: 0, api.PropGrow: 1}), abcd(props{api.PropBasis: 0, api.PropGrow: 3})}, 105, []int{25, 75}, 10},
		{"a basis that shrinks", []part{ab(props{api.PropBasis: 60}), abcd(props{api.PropBasis: 60})}, 95, []int{45, 45}, 20},
		{"pads", []part{ab(props{api.PropPadStart: 6}), abcd(props{api.PropPadEnd: 2})}, 90, []int{26, 52}, 10},
	} {
		p := row(props{api.PropGap: 5}, x.l...)
		testRects(t, "P21.5: the widths in a row: "+x.name, p, x.w, 50, rect(0, 0, x.want[0], 50), rect(x.want[0]+5, 0, x.want[1], 50))
		testHeight(t, "P21.5: a row: "+x.name, p, x.w, x.h)
	}
}

// TestRowHeights compares the heights of the children of rows, which may be limited.
func TestRowHeights(t *testing.T) {
	limited := func(low, high int) part { return image(9, 30, props{api.PropMinHeight: low, api.PropMaxHeight: high}) }
	for _, x := range []struct {
		align, low, high int
		want             api.Rect
	}{
		{api.AlignStretch, 0, far, rect(0, 0, 9, 40)},
		{api.AlignStretch, 0, 25, rect(0, 0, 9, 25)},
		{api.AlignStretch, 60, far, rect(0, 0, 9, 60)},
		{api.AlignStretch, 60, 25, rect(0, 0, 9, 60)},
		{api.AlignEnd, 0, far, rect(0, 10, 9, 30)},
		{api.AlignEnd, 0, 25, rect(0, 15, 9, 25)},
		{api.AlignEnd, 60, far, rect(0, -20, 9, 60)},
		{api.AlignBaseline, 0, 25, rect(0, 0, 9, 25)},
		{api.AlignBaseline, 60, far, rect(0, 0, 9, 60)},
	} {
		testRects(t, "P21.6: the heights in a row", row(props{api.PropAlign: x.align}, limited(x.low, x.high)), 50, 40, x.want)
	}
}

// TestRowBaselines aligns the baselines of several children.
func TestRowBaselines(t *testing.T) {
	kids := []part{label("ab", nil), label("ab", props{api.PropFontSize: 20}), image(9, 30, nil), column(props{api.PropPadTop: 5, api.PropPadBottom: 40}, label("a", nil))}
	p := plus(pads, api.PropAlign, api.AlignBaseline)
	want := []api.Rect{rect(3, 26, 20, 10), rect(28, 18, 40, 20), rect(73, 4, 9, 30), rect(87, 21, 10, 55), rect(0, 5, 10, 10)}
	for _, h := range []int{0, 44, 100} { // the extent of the row does not matter
		testRects(t, "P21.6: baselines", row(p, kids...), 120, h, want...)
	}
	testHeight(t, "P21.5: baselines", row(p, kids...), 120, 4+17+55+6)
	// The baselines are those for the widths that the children have: the text has two lines, and stands at the bottom.
	low := column(props{api.PropJustify: api.AlignEnd, api.PropMinHeight: 60}, label("ab cd", nil))
	narrow := row(props{api.PropAlign: api.AlignBaseline}, column(nil, low), image(9, 70, props{api.PropBasis: 20, api.PropShrink: 0}))
	testRects(t, "P21.6: the baseline of a narrow child", narrow, 40, 50, rect(0, 22, 20, 60), rect(0, 0, 20, 60), rect(0, 40, 20, 20), rect(20, 0, 20, 70))
	testHeight(t, "P21.5: the baseline of a narrow child", narrow, 40, 82)
}

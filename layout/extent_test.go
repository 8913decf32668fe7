package layout

import (
	"testing"

	"widgetry/api"
)

// TestWidths compares the intrinsic widths of each kind of layout.
func TestWidths(t *testing.T) {
	pads := props{api.PropPadStart: 3, api.PropPadEnd: 4, api.PropGap: 5}
	a, b := label("ab cde", nil), image(45, 9, nil) // 30 to 60, and 45
	testWidths(t, "a text", label("ab cde", pads), 37, 67)
	testWidths(t, "an empty text", label("", pads), 7, 7)
	testWidths(t, "a text with spans", label("ab cde", nil).with("spans", list(numbers(0, 3, 0, 20), numbers(3, 6, 0, 5))), 40, 75)
	testWidths(t, "a figure", image(45, 9, pads), 52, 52)
	testWidths(t, "a slider", part{kind: api.KindSlider, attrs: map[string]api.Value{"width": num(8)}}, 8, 8)
	testWidths(t, "a figure without a width", part{kind: api.KindImage}, 0, 0)
	testWidths(t, "a figure with a text as width", part{kind: api.KindImage, attrs: map[string]api.Value{"width": text("5")}}, 0, 0)
	testWidths(t, "a figure with a width below 0", image(-1, 9, pads), 7, 7)
	testWidths(t, "a figure with the greatest width", image(far, 9, nil), far, far)
	testWidths(t, "a figure with a greater width", image(far+1, 9, props{api.PropPadEnd: 4}), far, far)
	testWidths(t, "a column", column(pads, a, b), 52, 67)
	testWidths(t, "an empty column", column(pads), 7, 7)
	testWidths(t, "a scrolling node", scroll(plus(pads, api.PropDisplay, api.DisplayRow), a, b), 52, 67)
	testWidths(t, "a place", place(pads, a, b), 52, 67)
	testWidths(t, "a row", row(pads, a, b), 87, 117)
	testWidths(t, "a row with one child", row(pads, a), 37, 67)
	testWidths(t, "an empty row", row(pads), 7, 7)
	testWidths(t, "a wide row", row(props{api.PropGap: far}, a, b, b), far, far)
	testWidths(t, "a grid", gridOf(pads, []int{0, 0}, a, b, b.with("span", num(2))), 87, 117)
	testWidths(t, "a grid with fixed columns", gridOf(pads, []int{20, 0, -1}, a, b, a), 20+45+30+10+7, 20+45+60+10+7)
	testWidths(t, "a grid with one column", gridOf(pads, nil, a, b), 52, 67)
	testWidths(t, "an empty grid", gridOf(pads, []int{20, 0, -1}), 37, 37)
	testWidths(t, "children that are not shown", row(pads, a, b.with("hidden", truth(1))), 37, 67)
	testWidths(t, "buttons", part{kind: api.KindButton, style: pads, kids: []part{a}}, 37, 67)
}

// TestWidthLimit passes least and greatest widths.
func TestWidthLimit(t *testing.T) {
	limits := func(low, high int) props {
		return props{api.PropMinWidth: low, api.PropMaxWidth: high, api.PropPadStart: 1}
	}
	for _, x := range []struct{ low, high, least, most int }{
		{0, far, 31, 61}, {40, far, 40, 61}, {70, far, 70, 70}, {0, 50, 31, 50}, {0, 20, 20, 20}, {35, 55, 35, 55}, {50, 40, 50, 50}, {far, far, far, far}, {0, 0, 0, 0},
	} {
		testWidths(t, "limits", label("ab cde", limits(x.low, x.high)), x.least, x.most)
		testWidths(t, "limits of a column", column(limits(x.low, x.high), label("ab cde", nil)), x.least, x.most)
		testWidths(t, "limits of a grid", gridOf(limits(x.low, x.high), []int{0}, label("ab cde", nil)), x.least, x.most)
		testWidths(t, "limits in a row", row(nil, label("ab cde", limits(x.low, x.high))), x.least, x.most)
		testHeight(t, "P21.5: limits of widths", label("ab cde", limits(x.low, x.high)), 61, 10)
	}
	for _, x := range []struct{ low, high, want int }{{0, far, 21}, {30, far, 30}, {0, 15, 15}, {18, 25, 21}, {40, 30, 40}, {0, 0, 0}, {far, far, far}} {
		p := props{api.PropMinHeight: x.low, api.PropMaxHeight: x.high, api.PropPadTop: 1}
		testHeight(t, "P21.5: limits of a text", label("ab cde", p), 30, x.want)
		testHeight(t, "P21.5: limits of a column", column(p, image(5, 20, nil)), 30, x.want)
		testHeight(t, "P21.5: limits in a column", column(nil, image(5, 20, p)), 30, x.want)
		testWidths(t, "limits of heights", label("ab cde", p), 30, 60)
	}
}

// TestHeights compares the heights of each kind of layout for several widths.
func TestHeights(t *testing.T) {
	pads := props{api.PropPadStart: 3, api.PropPadTop: 100, api.PropPadEnd: 4, api.PropPadBottom: 200, api.PropGap: 5}
	a, b := label("ab cde", nil), image(45, 9, nil) // 10 in the width 60, 20 in 30
	for _, x := range []struct {
		name   string
		p      part
		widths []int
		want   int
	}{
		{"a text in a line", label("ab cde", pads), []int{67, 68, 500}, 310},
		{"a text in two lines", label("ab cde", pads), []int{37, 66}, 320},
		{"a text in clusters", label("ab cde", pads), []int{17, 26}, 350},
		{"a text without room even for clusters", label("ab cde", pads), []int{0, 5, 7, 16}, 360},
		{"an empty text", label("", pads), []int{0, 50}, 310},
		{"a text with spans", label("ab cde", nil).with("spans", list(numbers(0, 3, 0, 20), numbers(3, 6, 0, 5))), []int{75}, 20},
		{"a text with spans in two lines", label("ab cde", nil).with("spans", list(numbers(0, 3, 0, 20), numbers(3, 6, 0, 5))), []int{40, 74}, 25},
		{"a figure", image(45, 9, pads), []int{0, 50, far}, 309},
		{"a figure without a height", part{kind: api.KindSlider, style: pads}, []int{50}, 300},
		{"a figure with a text as height", part{kind: api.KindImage, attrs: map[string]api.Value{"height": text("5")}}, []int{50}, 0},
		{"a figure with a height below 0", image(5, -1, pads), []int{50}, 300},
		{"a figure with a greater height", image(5, far+1, pads), []int{50}, far},
		{"a column", column(pads, a, b), []int{67, 500}, 324},
		{"a narrow column", column(pads, a, b), []int{66, 37}, 334},
		{"an empty column", column(pads), []int{0, 50}, 300},
		{"a column with one child", column(pads, b), []int{50}, 309},
		{"a row with room", row(pads, a, b), []int{117, 500}, 310},
		{"a narrow row", row(pads, a, b), []int{116, 87, 0}, 320},
		{"an empty row", row(pads), []int{50}, 300},
		{"a grid", gridOf(pads, []int{0, 0}, a, b, b), []int{117}, 324},
		{"a narrow grid", gridOf(pads, []int{0, 0}, a, b, b), []int{87}, 334},
		{"an empty grid", gridOf(pads, []int{0, 0}), []int{87}, 300},
		{"a place", place(pads, a, b), []int{67}, 310},
		{"a narrow place", place(pads, a, b), []int{66}, 320},
		{"an empty place", place(pads), []int{66}, 300},
		{"a scrolling node", scroll(plus(pads, api.PropDisplay, api.DisplayGrid), a, b), []int{67}, 324},
		{"a scrolling node with a basis", scroll(plus(pads, api.PropBasis, 7), a, b), []int{67, 0}, 307},
		{"a scrolling node with the basis 0", scroll(plus(pads, api.PropBasis, 0), a, b), []int{67}, 300},
		{"a column with a basis", column(plus(pads, api.PropBasis, 7), a, b), []int{67}, 324},
		{"a text with a basis", label("ab", plus(pads, api.PropBasis, 7)), []int{67}, 310},
		{"a child that is not shown", column(pads, b, b.with("hidden", truth(1))), []int{50}, 309},
		{"a high column", column(nil, image(1, far, nil), b), []int{50}, far},
		{"a high grid", gridOf(nil, []int{1}, image(1, far, nil), b), []int{50}, far},
	} {
		for _, w := range x.widths {
			testHeight(t, "P21.5: "+x.name, x.p, w, x.want)
		}
	}
}

// TestBaselines compares the baselines that rows align.
func TestBaselines(t *testing.T) {
	a := label("ab", nil) // its baseline is 8
	low := props{api.PropPadTop: 5, api.PropPadBottom: 2}
	testBaseline(t, "a text", a, 8)
	testBaseline(t, "a text below a pad", label("ab", low), 13)
	testBaseline(t, "the first line", label("ab\ncd", nil).with("spans", list(numbers(0, 3, 0, 20), numbers(3, 5, 0, 40))), 16)
	testBaseline(t, "a text with a least height", label("ab", props{api.PropMinHeight: 70}), 8)
	testBaseline(t, "a figure", image(5, 30, low), 37)
	testBaseline(t, "an empty group", column(props{api.PropMinHeight: 12}), 12)
	testBaseline(t, "an empty row", row(low), 7)
	testBaseline(t, "an empty grid", gridOf(low, nil), 7)
	testBaseline(t, "an empty place", place(low), 7)
	testBaseline(t, "a group whose children are not shown", column(low, a.with("hidden", truth(1))), 7)
	testBaseline(t, "a column", column(low, a, image(5, 30, nil)), 13)
	testBaseline(t, "a column that begins with a figure", column(low, image(5, 30, nil), a), 35)
	testBaseline(t, "the first child that is shown", column(low, image(5, 30, nil).with("hidden", truth(1)), a), 13)
	testBaseline(t, "a column with room above", column(props{api.PropMinHeight: 50, api.PropJustify: api.AlignEnd}, a), 48)
	testBaseline(t, "a column with room around", column(props{api.PropMinHeight: 50, api.PropJustify: api.AlignCenter, api.PropPadTop: 3}, a), 3+18+8)
	testBaseline(t, "columns in columns", column(low, column(low, a)), 18)
	testBaseline(t, "a scrolling node", scroll(props{api.PropMinHeight: 50, api.PropJustify: api.AlignEnd, api.PropPadTop: 5}, a), 13)
	testBaseline(t, "a row", row(props{api.PropAlign: api.AlignEnd, api.PropPadTop: 3}, a, image(5, 30, nil)), 3+20+8)
	testBaseline(t, "a row that stretches a group", row(nil, column(nil), image(5, 30, nil)), 0)
	testBaseline(t, "a row that aligns baselines", row(props{api.PropAlign: api.AlignBaseline, api.PropPadTop: 3}, a, image(5, 30, nil)), 33)
	testBaseline(t, "a grid", gridOf(low, []int{50}, a, image(5, 30, nil)), 13)
	testBaseline(t, "a place", place(low, a.with("above", text("k")), image(5, 30, nil).named("k")), 5+30+8)
	// A baseline above the top counts as one at the top.
	testBaseline(t, "a baseline above the top", column(props{api.PropMaxHeight: 10, api.PropJustify: api.AlignEnd}, a, image(5, 60, nil)), 0)
	testBaseline(t, "a baseline at the top", column(props{api.PropMaxHeight: 10, api.PropJustify: api.AlignEnd}, a, image(5, 8, nil)), 0)
}

// TestBaselineHeights compares the heights of rows that align baselines.
func TestBaselineHeights(t *testing.T) {
	p := props{api.PropAlign: api.AlignBaseline}
	small, large, high := label("ab", nil), label("ab", props{api.PropFontSize: 20}), image(5, 30, nil)
	testHeight(t, "P21.5: texts", row(p, small, large), 100, 20)
	testHeight(t, "P21.5: texts and a figure", row(p, small, large, high), 100, 34)
	testHeight(t, "P21.5: a row with pads", row(plus(p, api.PropPadTop, 7), small, large, high), 100, 41)
	testHeight(t, "P21.5: an empty row", row(p), 100, 0)
	// The baseline is beyond the greatest extent, and counts as that; the row is limited as every node is.
	deep := column(props{api.PropPadTop: far}, small)
	testHeight(t, "P21.5: a baseline far below", row(p, deep, small), 100, far)
	testRects(t, "P21.6: a baseline far below", row(p, deep, small), 100, 50, api.Rect{W: 20, H: far}, api.Rect{Y: far, W: 20, H: 10}, api.Rect{X: 20, Y: far - 8, W: 20, H: 10})
}

package scroll

import (
	"fmt"
	"slices"
	"testing"

	"widgetry/api"
)

const most = 1 << 40 // the greatest number

func row(key string, height int) api.Strip { return api.Strip{Key: key, Height: height} }

// rowsOf returns rows of the heights, with different keys.
func rowsOf(heights ...int) []api.Strip {
	var l []api.Strip
	for i, h := range heights {
		l = append(l, row(fmt.Sprint("row ", i), h))
	}
	return l
}

// equalRows returns as many rows as there can be with the same height, and with the keys from 0 on.
func equalRows(height int) []api.Strip { return rowsOf(slices.Repeat([]int{height}, 10000)...) }

// show writes the beginning of a list.
func show(x any) string {
	s := fmt.Sprintf("%+v", x)
	if len(s) > 300 {
		return s[:300] + "..."
	}
	return s
}

func TestClamp(t *testing.T) {
	for _, x := range []struct{ offset, content, height, want int }{
		{30, 100, 40, 30},
		{0, 100, 40, 0},
		{-1, 100, 40, 0},
		{-500, 100, 40, 0},
		{59, 100, 40, 59},
		{60, 100, 40, 60},
		{61, 100, 40, 60},
		{500, 100, 40, 60},
		// The whole content is visible, or all but one pixel.
		{30, 40, 40, 0},
		{30, 41, 40, 1},
		{30, 39, 40, 0},
		{30, 0, 40, 0},
		{30, -10, 40, 0},
		{-30, -10, 0, 0},
		// The viewport shows nothing.
		{30, 10, 0, 10},
		{3, 10, 0, 3},
		{30, 0, 0, 0},
		// The greatest numbers.
		{most, most, 0, most},
		{most, most, 1, most - 1},
		{most, most, most, 0},
		{-most, most, 1, 0},
		{most, -most, most, 0},
		{-most, -most, 0, 0},
		{most - 7, most, 5, most - 7},
	} {
		if got := Clamp(x.offset, x.content, x.height); got != x.want {
			t.Errorf("P23.1: Clamp(%d, %d, %d) = %d, want %d", x.offset, x.content, x.height, got, x.want)
		}
	}
}

func TestReveal(t *testing.T) {
	for _, x := range []struct{ offset, height, at, extent, want int }{
		// It is visible.
		{10, 40, 10, 40, 10},
		{10, 40, 20, 30, 10},
		{10, 40, 10, 5, 10},
		{10, 40, 20, 5, 10},
		// It begins above the viewport.
		{10, 40, 9, 40, 9},
		{10, 40, 9, 5, 9},
		{10, 40, 0, 5, 0},
		{10, 40, -20, 5, -20},
		// It ends below the viewport.
		{10, 40, 11, 40, 11},
		{10, 40, 46, 5, 11},
		{10, 40, 45, 5, 10},
		{10, 40, 100, 5, 65},
		// It is higher than the viewport.
		{10, 40, 9, 41, 9},
		{10, 40, 10, 41, 10},
		{10, 40, 11, 41, 11},
		{10, 40, 5, 500, 5},
		{10, 40, 50, 500, 50},
		// It has no extent, or a negative one.
		{10, 40, 9, 0, 9},
		{10, 40, 10, 0, 10},
		{10, 40, 50, 0, 10},
		{10, 40, 51, 0, 11},
		{10, 40, 60, -5, 15},
		{10, 40, 60, -10, 10},
		{10, 40, 60, -20, 10},
		{10, 40, 5, -20, 5},
		// The viewport shows nothing.
		{10, 0, 10, 0, 10},
		{10, 0, 11, 0, 11},
		{10, 0, 9, 0, 9},
		{10, 0, 10, 1, 10},
		{10, 0, 12, 1, 12},
		{-10, 5, -10, 5, -10},
		{-10, 5, -8, 5, -8},
		// The greatest numbers.
		{most, most, most, most, most},
		{-most, most, most, most, most},
		{-most, most, most, 0, 0},
		{-most, most, most, -most, -most},
		{most, most, -most, most, -most},
		{-most, 0, most, most, most},
		{most, 0, most, -most, most},
	} {
		if got := Reveal(x.offset, x.height, x.at, x.extent); got != x.want {
			t.Errorf("P23.2: Reveal(%d, %d, %d, %d) = %d, want %d", x.offset, x.height, x.at, x.extent, got, x.want)
		}
	}
}

func TestVisible(t *testing.T) {
	five := rowsOf(10, 20, 30, 20, 10)
	gaps := rowsOf(0, 10, 0, 0, 10, 0)
	for _, x := range []struct {
		rows                        []api.Strip
		offset, height, first, last int
	}{
		{five, 0, 90, 0, 5},
		{five, 0, 10, 0, 1},
		{five, 0, 11, 0, 2},
		{five, 9, 1, 0, 1},
		{five, 9, 2, 0, 2},
		{five, 10, 20, 1, 2},
		{five, 10, 21, 1, 3},
		{five, 29, 2, 1, 3},
		{five, 30, 30, 2, 3},
		{five, 35, 10, 2, 3},
		{five, 59, 22, 2, 5},
		{five, 59, 21, 2, 4},
		{five, 80, 500, 4, 5},
		{five, 89, 1, 4, 5},
		// Below all rows, above them, and around them.
		{five, 90, 10, 5, 5},
		{five, 500, 10, 5, 5},
		{five, -10, 10, 0, 0},
		{five, -10, 11, 0, 1},
		{five, -500, 10, 0, 0},
		{five, -500, 5000, 0, 5},
		// The viewport shows nothing.
		{five, 0, 0, 0, 0},
		{five, 5, 0, 0, 1},
		{five, 10, 0, 1, 1},
		{five, 40, 0, 2, 3},
		{five, 90, 0, 5, 5},
		{five, -1, 0, 0, 0},
		// Rows without a height.
		{gaps, 0, 10, 1, 2},
		{gaps, 0, 11, 1, 5},
		{gaps, 0, 20, 1, 5},
		{gaps, 0, 21, 1, 6},
		{gaps, 10, 10, 4, 5},
		{gaps, 10, 11, 4, 6},
		{gaps, 9, 1, 1, 2},
		{gaps, 9, 2, 1, 5},
		{gaps, -1, 1, 0, 0},
		{gaps, -1, 2, 0, 2},
		{gaps, 20, 5, 6, 6},
		{rowsOf(0, 0), 0, 5, 2, 2},
		{rowsOf(0, 0), -1, 5, 0, 2},
		{rowsOf(0, 0), -5, 5, 0, 0},
		// No rows.
		{nil, 0, 5, 0, 0},
		{[]api.Strip{}, -3, 5, 0, 0},
		// The keys do not matter.
		{[]api.Strip{row("a", 10), row("a", 20), row("", 30)}, 10, 21, 1, 3},
		// The greatest numbers.
		{equalRows(10), 12345, 100, 1234, 1245},
		{equalRows(10), 99995, 100, 9999, 10000},
		{equalRows(most), most, most, 1, 2},
		{equalRows(most), most - 1, most, 0, 2},
		{equalRows(most), -most, most, 0, 0},
		{equalRows(0), most, most, 10000, 10000},
		{equalRows(0), -most, most, 0, 0},
		{equalRows(0), 1 - most, most, 0, 10000},
	} {
		if first, last := Visible(x.rows, x.offset, x.height); first != x.first || last != x.last {
			t.Errorf("P23.3: Visible(%s, %d, %d) = %d, %d, want %d, %d", show(x.rows), x.offset, x.height, first, last, x.first, x.last)
		}
	}
}

func TestKeep(t *testing.T) {
	old := []api.Strip{row("a", 10), row("b", 20), row("c", 30), row("d", 40)}
	for _, x := range []struct {
		name   string
		old    []api.Strip
		rows   []api.Strip
		offset int
		want   int
	}{
		{"the same", old, old, 15, 15},
		{"the same, at the top", old, old, 0, 0},
		{"the same, above the top", old, old, -7, -7},
		{"the same, below the rows", old, old, 5000, 5000},
		{"one more in front", old, append([]api.Strip{row("x", 7)}, old...), 15, 22},
		{"one more at the end", old, append(slices.Clone(old), row("x", 7)), 15, 15},
		{"the first one is higher", old, []api.Strip{row("a", 13), row("b", 20), row("c", 30), row("d", 40)}, 15, 18},
		{"the anchor is higher", old, []api.Strip{row("a", 10), row("b", 200), row("c", 30), row("d", 40)}, 15, 15},
		{"the anchor is lower", old, []api.Strip{row("a", 10), row("b", 1), row("c", 30), row("d", 40)}, 25, 25},
		{"the first one is gone", old, old[1:], 15, 5},
		{"the first one, which was the anchor, is gone", old, old[1:], 5, -5},
		{"the anchor is gone", old, []api.Strip{row("a", 10), row("c", 30), row("d", 40)}, 15, -5},
		{"the last one is gone", old, old[:3], 15, 15},
		{"the last one, which was the anchor, is gone", old, old[:3], 70, 70},
		{"another order", old, []api.Strip{row("d", 40), row("c", 30), row("b", 20), row("a", 10)}, 15, 75},
		{"another order, seen from the first pixel of a row", old, []api.Strip{row("d", 40), row("c", 30), row("b", 20), row("a", 10)}, 10, 70},
		{"another order, seen from the last pixel of a row", old, []api.Strip{row("d", 40), row("c", 30), row("b", 20), row("a", 10)}, 9, 99},
		{"other heights", old, []api.Strip{row("c", 300), row("d", 400), row("a", 100)}, 15, -15},
		{"only rows above", old, []api.Strip{row("x", 100), row("a", 10), row("b", 20)}, 50, 150},
		{"only the first one", old, []api.Strip{row("x", 100), row("a", 10)}, 50, 150},
		{"only rows above, in another order", old, []api.Strip{row("b", 20), row("a", 10)}, 50, 40},
		{"only the last one", old, []api.Strip{row("x", 7), row("d", 1)}, 15, -38},
		{"only other ones", old, []api.Strip{row("x", 10), row("y", 20)}, 15, 0},
		{"none before", nil, old, 15, 0},
		{"none now", old, nil, 15, 0},
		{"none at all", nil, []api.Strip{}, 15, 0},
		// The result is not clamped.
		{"far above", old, old[3:], -5000, -5060},
		{"far below", old, []api.Strip{row("x", 1000), row("d", 1)}, 5000, 5940},
		// Rows without a height.
		{"an anchor without a height", []api.Strip{row("a", 0), row("b", 0)}, []api.Strip{row("x", 9), row("b", 0), row("y", 9), row("a", 0)}, -1, 17},
		{"none that reaches into the viewport", []api.Strip{row("a", 0), row("b", 0)}, []api.Strip{row("x", 9), row("b", 0), row("y", 9), row("a", 0)}, 0, 9},
		// A key may occur again.
		{"twice now", old, []api.Strip{row("x", 9), row("b", 1), row("b", 1), row("a", 1)}, 15, 14},
		{"twice before, in the viewport", []api.Strip{row("a", 10), row("b", 20), row("a", 30)}, []api.Strip{row("a", 5), row("x", 5)}, 35, 5},
		{"twice before, above it", []api.Strip{row("a", 10), row("a", 20), row("x", 30)}, []api.Strip{row("y", 3), row("a", 5)}, 35, 28},
		{"twice before and now", []api.Strip{row("a", 10), row("a", 20), row("a", 30)}, []api.Strip{row("y", 3), row("a", 5), row("a", 7)}, 12, 5},
		// Any key is one.
		{"the empty key", []api.Strip{row("a", 10), row("", 20)}, []api.Strip{row("", 20), row("a", 10)}, 15, 5},
		{"keys that are not UTF-8", []api.Strip{row("\xff", 10), row("\xfe", 20)}, []api.Strip{row("\xfe", 20), row("\xff", 10)}, 5, 25},
		{"keys that differ in their case", []api.Strip{row("a", 10)}, []api.Strip{row("A", 10)}, 5, 0},
		// The greatest numbers.
		{"as many as can be", equalRows(10), equalRows(20), 12345, 24685},
		{"the longest rows", equalRows(most), equalRows(most), most, most},
		{"behind the longest rows", []api.Strip{row("row 9999", 1)}, equalRows(most), most, 10000 * most},
		{"before the longest rows", equalRows(most), []api.Strip{row("row 9999", 1)}, -most, -10000 * most},
	} {
		if got := Keep(x.old, x.rows, x.offset); got != x.want {
			t.Errorf("P23.4: %s: Keep(%s, %s, %d) = %d, want %d", x.name, show(x.old), show(x.rows), x.offset, got, x.want)
		}
	}
}

func TestPinned(t *testing.T) {
	three := []api.Section{{Top: 0, Height: 50, Header: 10}, {Top: 50, Height: 30, Header: 8}, {Top: 80, Height: 100, Header: 10}}
	for _, x := range []struct {
		l      []api.Section
		offset int
		want   []int
	}{
		{three, 0, []int{0, 50, 80}},
		{three, -20, []int{0, 50, 80}},
		{three, 1, []int{1, 50, 80}},
		{three, 39, []int{39, 50, 80}},
		{three, 40, []int{40, 50, 80}},
		{three, 41, []int{40, 50, 80}},
		{three, 50, []int{40, 50, 80}},
		{three, 51, []int{40, 51, 80}},
		{three, 72, []int{40, 72, 80}},
		{three, 73, []int{40, 72, 80}},
		{three, 100, []int{40, 72, 100}},
		{three, 500, []int{40, 72, 170}},
		// The header is as high as the section, or higher.
		{[]api.Section{{Top: 20, Height: 10, Header: 10}, {Top: 20, Height: 10, Header: 11}, {Top: 20, Height: 10, Header: 500}}, 0, []int{20, 20, 20}},
		{[]api.Section{{Top: 20, Height: 10, Header: 10}, {Top: 20, Height: 10, Header: 11}, {Top: 20, Height: 10, Header: 500}}, 25, []int{20, 20, 20}},
		{[]api.Section{{Top: 20, Height: 10, Header: 10}, {Top: 20, Height: 10, Header: 9}, {Top: 20, Height: 0, Header: 1}}, 500, []int{20, 21, 20}},
		// Neither the order of the sections nor what they share matters.
		{[]api.Section{{Top: 50, Height: 30}, {Top: -10, Height: 100, Header: 5}, {}, {Top: 60, Header: 0}}, 55, []int{55, 55, 0, 60}},
		{[]api.Section{{Top: -50, Height: 30, Header: 10}}, -40, []int{-40}},
		{[]api.Section{{Top: -50, Height: 30, Header: 10}}, 0, []int{-30}},
		{nil, 5, nil},
		{[]api.Section{}, 5, nil},
		// The greatest numbers.
		{[]api.Section{{Top: most, Height: most}, {Top: -most, Height: most, Header: most}, {Top: -most, Header: most}}, most, []int{most, -most, -most}},
		{[]api.Section{{Top: most, Height: most}, {Top: -most, Height: most, Header: most}, {Top: -most, Height: most}}, -most, []int{most, -most, -most}},
		{[]api.Section{{Top: 1, Height: most}, {Top: 0, Height: most}, {Top: -1, Height: most}}, most, []int{most, most, most - 1}},
		{slices.Repeat([]api.Section{{Top: 3, Height: 9, Header: 2}}, 10000), 6, slices.Repeat([]int{6}, 10000)},
	} {
		if got := Pinned(x.l, x.offset); !slices.Equal(got, x.want) {
			t.Errorf("P23.5: Pinned(%s, %d) = %s, want %s", show(x.l), x.offset, show(got), show(x.want))
		}
	}
}

package box

import (
	"math"
	"slices"
	"testing"

	"widgetry/api"
)

// noLengths are numbers that are not from 0 to MaxLength.
func noLengths() []int {
	return []int{math.MinInt, math.MinInt + 1, -most - 1, -most, -2, -1, most + 1, most + 2, 1 << 30, 1 << 32, math.MaxInt - 1, math.MaxInt}
}

// TestOffsets contains positions that were computed by hand, from both sides.
func TestOffsets(t *testing.T) {
	tests := []struct {
		available, gap, justify int
		sizes, left, right      []int
	}{
		{20, 2, api.AlignStart, []int{3, 5, 4}, []int{0, 5, 12}, []int{17, 10, 4}},
		{20, 2, api.AlignEnd, []int{3, 5, 4}, []int{4, 9, 16}, []int{13, 6, 0}},
		{20, 2, api.AlignCenter, []int{3, 5, 4}, []int{2, 7, 14}, []int{15, 8, 2}},
		{21, 2, api.AlignCenter, []int{3, 5, 4}, []int{2, 7, 14}, []int{16, 9, 3}},
		{20, 2, api.JustifyBetween, []int{3, 5, 4}, []int{0, 7, 16}, []int{17, 8, 0}},
		// Of two equal parts the first one gets what is left.
		{21, 2, api.JustifyBetween, []int{3, 5, 4}, []int{0, 8, 17}, []int{18, 8, 0}},
		{17, 0, api.JustifyBetween, []int{1, 1, 1, 1, 1}, []int{0, 4, 8, 12, 16}, []int{16, 12, 8, 4, 0}},
		{19, 0, api.JustifyBetween, []int{1, 1, 1, 1, 1}, []int{0, 5, 10, 14, 18}, []int{18, 13, 8, 4, 0}},
		{17, 1, api.JustifyBetween, []int{1, 1, 1, 1, 1, 1}, []int{0, 4, 7, 10, 13, 16}, []int{16, 12, 9, 6, 3, 0}},
		// One element has no gap.
		{10, 9, api.AlignStart, []int{4}, []int{0}, []int{6}},
		{10, 9, api.AlignEnd, []int{4}, []int{6}, []int{0}},
		{10, 9, api.AlignCenter, []int{4}, []int{3}, []int{3}},
		{11, 9, api.AlignCenter, []int{4}, []int{3}, []int{4}},
		{10, 9, api.JustifyBetween, []int{4}, []int{0}, []int{6}},
		{10, 9, api.JustifyBetween, []int{14}, []int{0}, []int{-4}},
		// No space is free.
		{14, 1, api.AlignEnd, []int{6, 7}, []int{0, 7}, []int{8, 0}},
		{14, 1, api.AlignCenter, []int{6, 7}, []int{0, 7}, []int{8, 0}},
		{14, 1, api.JustifyBetween, []int{6, 7}, []int{0, 7}, []int{8, 0}},
		{15, 1, api.JustifyBetween, []int{6, 7}, []int{0, 8}, []int{9, 0}},
		// The elements are wider than the space.
		{10, 1, api.AlignStart, []int{6, 8}, []int{0, 7}, []int{4, -5}},
		{10, 1, api.AlignEnd, []int{6, 8}, []int{-5, 2}, []int{9, 0}},
		{10, 1, api.AlignCenter, []int{6, 8}, []int{-3, 4}, []int{7, -2}},
		{10, 2, api.AlignCenter, []int{6, 8}, []int{-3, 5}, []int{7, -3}},
		{10, 1, api.JustifyBetween, []int{6, 8}, []int{0, 7}, []int{4, -5}},
		{9, 8, api.JustifyBetween, []int{1, 1, 1}, []int{0, 9, 18}, []int{8, -1, -10}},
		// Elements without an extent.
		{9, 0, api.AlignStart, []int{0, 0, 0}, []int{0, 0, 0}, []int{9, 9, 9}},
		{9, 0, api.AlignEnd, []int{0, 0, 0}, []int{9, 9, 9}, []int{0, 0, 0}},
		{9, 0, api.JustifyBetween, []int{0, 0, 0}, []int{0, 5, 9}, []int{9, 4, 0}},
		{0, 0, api.JustifyBetween, []int{0, 0}, []int{0, 0}, []int{0, 0}},
		// The greatest numbers.
		{most, most, api.AlignEnd, []int{most, most}, []int{-2 * most, 0}, []int{2 * most, 0}},
		{most, 0, api.JustifyBetween, []int{0, 0}, []int{0, most}, []int{most, 0}},
	}
	for _, x := range tests {
		if got := Offsets(x.available, x.gap, x.justify, x.sizes, false); !slices.Equal(got, x.left) {
			t.Errorf("P18.2: Offsets(%d, %d, %d, %v, false) = %v, want %v", x.available, x.gap, x.justify, x.sizes, got, x.left)
		}
		if got := Offsets(x.available, x.gap, x.justify, x.sizes, true); !slices.Equal(got, x.right) {
			t.Errorf("P18.2: Offsets(%d, %d, %d, %v, true) = %v, want %v", x.available, x.gap, x.justify, x.sizes, got, x.right)
		}
	}
}

// TestOffsetsMost positions as many elements as there can be.
func TestOffsetsMost(t *testing.T) {
	sizes := slices.Repeat([]int{most}, api.MaxKids)
	for _, right := range []bool{false, true} {
		got := Offsets(0, most, api.AlignCenter, sizes, right)
		want := make([]int, api.MaxKids)
		for i := range want {
			// They and their gaps are 199 times as wide as MaxLength.
			want[i] = 2*most*i - most*199/2
			if right {
				want[i] = -most - want[i]
			}
		}
		if !slices.Equal(got, want) {
			t.Errorf("P18.2: Offsets of MaxKids elements of MaxLength, %v: %v", right, got)
		}
	}
}

func TestOffsetsRefused(t *testing.T) {
	for _, right := range []bool{false, true} {
		for _, n := range noLengths() {
			for justify := range 4 {
				testNoOffsets(t, n, 0, justify, []int{1, 2}, right)
				testNoOffsets(t, 9, n, justify, []int{1, 2}, right)
				testNoOffsets(t, 9, n, justify, []int{1}, right)
				testNoOffsets(t, 9, 0, justify, []int{n}, right)
				testNoOffsets(t, 9, 0, justify, []int{n, 1}, right)
				testNoOffsets(t, 9, 0, justify, []int{1, n, 1}, right)
				testNoOffsets(t, 9, 0, justify, []int{1, 1, n}, right)
				testNoOffsets(t, n, 0, justify, []int{1, n}, right)
				testNoOffsets(t, 9, n, justify, []int{1, n}, right)
				testNoOffsets(t, 9, 0, justify, slices.Repeat([]int{n}, api.MaxKids+1), right)
				testNoOffsets(t, n, 0, justify, make([]int, api.MaxKids+1), right)
				testNoOffsets(t, n, n, justify, slices.Repeat([]int{n}, api.MaxKids), right)
			}
		}
		for _, justify := range []int{math.MinInt, -1, 4, 5, 1 << 32, math.MaxInt} {
			testNoOffsets(t, 9, 0, justify, []int{1}, right)
			testNoOffsets(t, 9, 0, justify, []int{1, 1}, right)
			// More than one argument is not valid.
			testNoOffsets(t, 9, 0, justify, make([]int, api.MaxKids+1), right)
			testNoOffsets(t, -1, 0, justify, []int{1, 1}, right)
			testNoOffsets(t, 9, most+1, justify, []int{1, 1}, right)
			testNoOffsets(t, 9, 0, justify, []int{1, -1}, right)
			testNoOffsets(t, -1, 0, justify, []int{1, -1}, right)
		}
		for justify := range 4 {
			for _, n := range []int{api.MaxKids + 1, 1 << 16} {
				testNoOffsets(t, most, 0, justify, make([]int, n), right)
			}
			testNoOffsets(t, 9, 3, justify, nil, right)
			testNoOffsets(t, 9, 3, justify, []int{}, right)
			testNoOffsets(t, 0, most, justify, []int{}, right)
			if got := Offsets(most, most, justify, slices.Repeat([]int{0, most}, api.MaxKids/2), right); len(got) != api.MaxKids {
				t.Errorf("P18.2: Offsets of MaxKids elements by %d: %v", justify, got)
			}
		}
	}
}

func testNoOffsets(t *testing.T, available, gap, justify int, sizes []int, right bool) {
	t.Helper()
	if got := Offsets(available, gap, justify, sizes, right); len(got) > 0 {
		t.Errorf("P18.2: Offsets(%d, %d, %d, %d sizes, %v) = %v", available, gap, justify, len(sizes), right, got)
	}
}

func TestAlign(t *testing.T) {
	tests := []struct{ align, available, size, left, right, extent int }{
		{api.AlignStart, 10, 4, 0, 6, 4}, {api.AlignEnd, 10, 4, 6, 0, 4}, {api.AlignCenter, 10, 4, 3, 3, 4}, {api.AlignStretch, 10, 4, 0, 0, 10}, {api.AlignBaseline, 10, 4, 0, 6, 4},
		{api.AlignCenter, 10, 5, 2, 3, 5}, {api.AlignCenter, 10, 10, 0, 0, 10}, {api.AlignEnd, 10, 10, 0, 0, 10},
		{api.AlignStart, 4, 9, 0, -5, 9}, {api.AlignEnd, 4, 9, -5, 0, 9}, {api.AlignCenter, 4, 9, -3, -2, 9}, {api.AlignStretch, 4, 9, 0, 0, 4}, {api.AlignBaseline, 4, 9, 0, -5, 9},
		{api.AlignStart, 0, 0, 0, 0, 0}, {api.AlignEnd, 0, 0, 0, 0, 0}, {api.AlignCenter, 0, 0, 0, 0, 0}, {api.AlignStretch, 0, 0, 0, 0, 0}, {api.AlignBaseline, 0, 0, 0, 0, 0},
		{api.AlignStart, most, 0, 0, most, 0}, {api.AlignEnd, most, 0, most, 0, 0}, {api.AlignCenter, most, 0, most / 2, most / 2, 0}, {api.AlignStretch, most, 0, 0, 0, most}, {api.AlignBaseline, most, 0, 0, most, 0},
		{api.AlignStart, 0, most, 0, -most, most}, {api.AlignEnd, 0, most, -most, 0, most}, {api.AlignCenter, 1, most, -most / 2, 1 - most/2, most}, {api.AlignStretch, 0, most, 0, 0, 0}, {api.AlignBaseline, most, most, 0, 0, most},
	}
	for _, x := range tests {
		if at, extent := Align(x.align, x.available, x.size, false); at != x.left || extent != x.extent {
			t.Errorf("P18.3: Align(%d, %d, %d, false) = %d, %d, want %d, %d", x.align, x.available, x.size, at, extent, x.left, x.extent)
		}
		if at, extent := Align(x.align, x.available, x.size, true); at != x.right || extent != x.extent {
			t.Errorf("P18.3: Align(%d, %d, %d, true) = %d, %d, want %d, %d", x.align, x.available, x.size, at, extent, x.right, x.extent)
		}
	}
}

func TestAlignRefused(t *testing.T) {
	for _, right := range []bool{false, true} {
		for _, n := range noLengths() {
			for align := range 5 {
				testNoAlign(t, align, n, 5, right)
				testNoAlign(t, align, 5, n, right)
				testNoAlign(t, align, n, n, right)
			}
		}
		for _, align := range []int{math.MinInt, -1, 5, 6, 1 << 32, math.MaxInt} {
			testNoAlign(t, align, 9, 5, right)
			for _, n := range noLengths() {
				testNoAlign(t, align, n, 5, right)
				testNoAlign(t, align, 9, n, right)
			}
		}
	}
}

func testNoAlign(t *testing.T, align, available, size int, right bool) {
	t.Helper()
	if at, extent := Align(align, available, size, right); at != 0 || extent != 0 {
		t.Errorf("P18.3: Align(%d, %d, %d, %v) = %d, %d", align, available, size, right, at, extent)
	}
}

func TestBaseline(t *testing.T) {
	tests := []struct {
		heights, baselines, offsets []int
		height                      int
	}{
		{[]int{20, 10, 16}, []int{15, 8, 12}, []int{0, 7, 3}, 20},
		{[]int{20, 10, 19}, []int{15, 8, 12}, []int{0, 7, 3}, 22},
		{[]int{10, 14, 20}, []int{8, 2, 15}, []int{7, 13, 0}, 27},
		{[]int{10, 10}, []int{8, 8}, []int{0, 0}, 10},
		{[]int{10}, []int{8}, []int{0}, 10},
		// A baseline may be below the element.
		{[]int{10, 3}, []int{8, 30}, []int{22, 0}, 32},
		{[]int{0, 0}, []int{8, 30}, []int{22, 0}, 22},
		{[]int{0}, []int{30}, []int{0}, 0},
		{[]int{7, 9}, []int{0, 0}, []int{0, 0}, 9},
		{nil, nil, nil, 0}, {[]int{}, nil, nil, 0}, {nil, []int{}, nil, 0},
		{[]int{most, most}, []int{0, most}, []int{most, 0}, 2 * most},
		{slices.Repeat([]int{most}, api.MaxKids), slices.Repeat([]int{most}, api.MaxKids), make([]int, api.MaxKids), most},
	}
	for _, x := range tests {
		if offsets, height := Baseline(x.heights, x.baselines); !slices.Equal(offsets, x.offsets) || height != x.height {
			t.Errorf("P18.4: Baseline(%v, %v) = %v, %d, want %v, %d", x.heights, x.baselines, offsets, height, x.offsets, x.height)
		}
	}
}

func TestBaselineRefused(t *testing.T) {
	for _, n := range noLengths() {
		for i := range 3 {
			bad := []int{5, 6, 7}
			bad[i] = n
			testNoBaseline(t, bad, []int{1, 2, 3})
			testNoBaseline(t, []int{1, 2, 3}, bad)
			testNoBaseline(t, bad, bad)
		}
		for _, count := range []int{api.MaxKids, api.MaxKids + 1} {
			zeros, bad := make([]int, count), slices.Repeat([]int{n}, count)
			testNoBaseline(t, bad, zeros)
			testNoBaseline(t, zeros, bad)
			testNoBaseline(t, bad, bad)
			testNoBaseline(t, bad, zeros[1:])
			testNoBaseline(t, zeros[1:], bad)
		}
		testNoBaseline(t, []int{n}, []int{0})
		testNoBaseline(t, []int{0}, []int{n})
	}
	for _, n := range []int{0, 1, 2, 4, 99, 100, 101, 1 << 16} {
		testNoBaseline(t, make([]int, n), []int{1, 2, 3})
		testNoBaseline(t, []int{1, 2, 3}, make([]int, n))
		if n > api.MaxKids {
			testNoBaseline(t, make([]int, n), make([]int, n))
			testNoBaseline(t, slices.Repeat([]int{3}, n), slices.Repeat([]int{2}, n))
		}
	}
}

func testNoBaseline(t *testing.T, heights, baselines []int) {
	t.Helper()
	if offsets, height := Baseline(heights, baselines); len(offsets) > 0 || height != 0 {
		t.Errorf("P18.4: Baseline of %d heights and %d baselines = %v, %d", len(heights), len(baselines), offsets, height)
	}
}

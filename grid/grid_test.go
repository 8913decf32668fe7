package grid

import (
	"math"
	"slices"
	"testing"

	"widgetry/api"
)

const most = api.MaxLength

// noLengths are numbers that are not from 0 to MaxLength.
func noLengths() []int {
	return []int{math.MinInt, math.MinInt + 1, -most - 1, -most, -2, -1, most + 1, most + 2, 1 << 30, 1 << 32, math.MaxInt - 1, math.MaxInt}
}

// numbers returns the row, the column and the span of each area.
func numbers(areas []api.Area) [][3]int {
	var l [][3]int
	for _, a := range areas {
		l = append(l, [3]int{a.Row, a.Col, a.Span})
	}
	return l
}

// TestPlace contains areas that were found by hand.
func TestPlace(t *testing.T) {
	tests := []struct {
		columns int
		spans   []int
		want    [][3]int
	}{
		{3, nil, nil}, {3, []int{}, nil}, {1, nil, nil}, {api.MaxTracks, nil, nil},
		{3, []int{1, 1, 1, 1, 1}, [][3]int{{0, 0, 1}, {0, 1, 1}, {0, 2, 1}, {1, 0, 1}, {1, 1, 1}}},
		{3, []int{2, 1, 1, 2}, [][3]int{{0, 0, 2}, {0, 2, 1}, {1, 0, 1}, {1, 1, 2}}},
		{3, []int{1, 3, 1}, [][3]int{{0, 0, 1}, {1, 0, 3}, {2, 0, 1}}},
		{3, []int{3, 3}, [][3]int{{0, 0, 3}, {1, 0, 3}}},
		// Room that is left in a row stays empty, also where a later item would fit.
		{3, []int{2, 2, 1, 2, 1}, [][3]int{{0, 0, 2}, {1, 0, 2}, {1, 2, 1}, {2, 0, 2}, {2, 2, 1}}},
		{4, []int{3, 2, 1, 2, 3}, [][3]int{{0, 0, 3}, {1, 0, 2}, {1, 2, 1}, {2, 0, 2}, {3, 0, 3}}},
		// Spans are at least 1 and at most the number of columns.
		{2, []int{0, -5, math.MinInt, 3, math.MaxInt, 1}, [][3]int{{0, 0, 1}, {0, 1, 1}, {1, 0, 1}, {2, 0, 2}, {3, 0, 2}, {4, 0, 1}}},
		{1, []int{1, 2, 0, 9}, [][3]int{{0, 0, 1}, {1, 0, 1}, {2, 0, 1}, {3, 0, 1}}},
		{api.MaxTracks, []int{23, 1, 24, 25, 12, 12, 1}, [][3]int{{0, 0, 23}, {0, 23, 1}, {1, 0, 24}, {2, 0, 24}, {3, 0, 12}, {3, 12, 12}, {4, 0, 1}}},
	}
	for _, x := range tests {
		before := slices.Clone(x.spans)
		if got := numbers(Place(x.columns, x.spans)); !slices.Equal(got, x.want) || !slices.Equal(before, x.spans) {
			t.Errorf("P19.1: Place(%d, %v) = %v, want %v", x.columns, x.spans, got, x.want)
		}
	}
}

// TestPlaceMost places as many items as there can be.
func TestPlaceMost(t *testing.T) {
	for columns := 1; columns <= api.MaxTracks; columns++ {
		for span := -1; span <= api.MaxTracks+1; span++ {
			testAreas(t, columns, slices.Repeat([]int{span}, api.MaxKids))
		}
	}
	for i, a := range Place(3, make([]int, api.MaxKids)) {
		if want := (api.Area{Row: i / 3, Col: i % 3, Span: 1}); a != want {
			t.Errorf("P19.1: Place of MaxKids items: the item %d has the area %v, want %v", i, a, want)
		}
	}
}

func TestPlaceRefused(t *testing.T) {
	for _, columns := range []int{math.MinInt, -1, 0, api.MaxTracks + 1, 1 << 32, math.MaxInt} {
		for _, n := range []int{0, 1, 3, api.MaxKids, api.MaxKids + 1} {
			if got := Place(columns, slices.Repeat([]int{1}, n)); len(got) > 0 {
				t.Errorf("P19.1: Place(%d, %d spans) = %v", columns, n, got)
			}
		}
	}
	for _, n := range []int{api.MaxKids + 1, api.MaxKids + 2, 1 << 16} {
		for _, columns := range []int{1, 7, api.MaxTracks} {
			for _, span := range []int{-3, 0, 1, 30} {
				if got := Place(columns, slices.Repeat([]int{span}, n)); len(got) > 0 {
					t.Errorf("P19.1: Place(%d, %d spans %d) returns %d areas", columns, n, span, len(got))
				}
			}
		}
	}
}

// forAllSpans calls f with all lists of at most n spans from low to high.
func forAllSpans(n, low, high int, f func(spans []int)) {
	var extend func(spans []int)
	extend = func(spans []int) {
		f(spans)
		if len(spans) == n {
			return
		}
		for s := low; s <= high; s++ {
			extend(append(slices.Clone(spans), s))
		}
	}
	extend(nil)
}

// TestPlaceAll checks what P19.1 and P19.5 say of the areas, for all short lists of small spans.
func TestPlaceAll(t *testing.T) {
	for columns := 1; columns <= 4; columns++ {
		forAllSpans(6, -1, 5, func(spans []int) { testAreas(t, columns, spans) })
	}
}

func testAreas(t *testing.T, columns int, spans []int) {
	t.Helper()
	got := Place(columns, spans)
	if len(got) != len(spans) {
		t.Fatalf("P19.1: Place(%d, %v) = %v", columns, spans, got)
	}
	row, used := 0, 0 // the row of the item before, and how many of its columns are used up to the end of that item
	taken := map[[2]int]bool{}
	for i, a := range got {
		if a.Span != min(max(spans[i], 1), columns) {
			t.Fatalf("P19.1: Place(%d, %v) = %v: the span of the item %d", columns, spans, got, i)
		}
		same := a.Row == row && a.Col == used
		next := a.Row == row+1 && a.Col == 0
		if room := columns - used; room >= a.Span && !same || room < a.Span && !next {
			t.Fatalf("P19.1: Place(%d, %v) = %v: the place of the item %d", columns, spans, got, i)
		}
		if i > 0 && (a.Row < got[i-1].Row || a.Row == got[i-1].Row && a.Col <= got[i-1].Col) {
			t.Fatalf("P19.5: Place(%d, %v) = %v: the item %d does not follow the one before it", columns, spans, got, i)
		}
		for col := a.Col; col < a.Col+a.Span; col++ {
			if col >= columns || taken[[2]int{a.Row, col}] {
				t.Fatalf("P19.5: Place(%d, %v) = %v: the item %d covers what it may not", columns, spans, got, i)
			}
			taken[[2]int{a.Row, col}] = true
		}
		row, used = a.Row, a.Col+a.Span
	}
}

func TestStarts(t *testing.T) {
	tests := []struct {
		gap         int
		sizes, want []int
	}{
		{5, nil, nil}, {5, []int{}, nil},
		{5, []int{7}, []int{0}},
		{5, []int{7, 0, 3, 20}, []int{0, 12, 17, 25}},
		{0, []int{7, 0, 3, 20}, []int{0, 7, 7, 10}},
		{0, []int{0, 0, 0}, []int{0, 0, 0}},
		{most, []int{most, most, 0, most}, []int{0, 2 * most, 4 * most, 5 * most}},
	}
	for _, x := range tests {
		before := slices.Clone(x.sizes)
		if got := Starts(x.gap, x.sizes); !slices.Equal(got, x.want) || !slices.Equal(before, x.sizes) {
			t.Errorf("P19.4: Starts(%d, %v) = %v, want %v", x.gap, before, got, x.want)
		}
	}
	// A grid has at most MaxTracks columns, but a row for each of its items.
	for _, n := range []int{api.MaxTracks, api.MaxTracks + 1, api.MaxKids, api.MaxKids + 1, 1 << 16} {
		got := Starts(most, slices.Repeat([]int{most}, n))
		if len(got) != n {
			t.Errorf("P19.4: Starts of %d sizes returns %d", n, len(got))
		}
		for i, at := range got {
			if at != 2*most*i {
				t.Fatalf("P19.4: Starts of %d sizes of MaxLength: the track %d is at %d", n, i, at)
			}
		}
	}
}

// TestStartsRefused passes numbers that have no positions by P19.4.
func TestStartsRefused(t *testing.T) {
	for _, n := range noLengths() {
		for _, sizes := range [][]int{{n}, {n, 1, 2}, {1, n, 2}, {1, 2, n}, {n, n, n}} {
			if got := Starts(3, sizes); len(got) > 0 {
				t.Errorf("P19.4: Starts(3, %v) = %v", sizes, got)
			}
			if got := Starts(n, sizes); len(got) > 0 {
				t.Errorf("P19.4: Starts(%d, %v) = %v", n, sizes, got)
			}
		}
		for _, sizes := range [][]int{nil, {1}, {1, 2, 3}} {
			if got := Starts(n, sizes); len(got) > 0 {
				t.Errorf("P19.4: Starts(%d, %v) = %v", n, sizes, got)
			}
		}
	}
}

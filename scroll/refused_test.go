package scroll

import (
	"math"
	"slices"
	"testing"

	"widgetry/api"
)

// tooGreat are numbers that are not from -2^40 to 2^40.
func tooGreat() []int {
	return []int{math.MinInt, math.MinInt + 1, -1 << 62, -1 << 41, -most - 2, -most - 1, most + 1, most + 2, 1 << 41, 1 << 62, math.MaxInt - 1, math.MaxInt}
}

// noHeights are numbers that no height can be.
func noHeights() []int { return append(tooGreat(), -most, -most+1, -1000, -2, -1) }

// TestRefusedNumbers passes one bad number at a time to Clamp and Reveal, whose result would not be 0 otherwise.
func TestRefusedNumbers(t *testing.T) {
	if Clamp(30, 100, 40) != 30 || Reveal(30, 40, 50, 30) != 40 {
		t.Fatalf("Clamp = %d, Reveal = %d", Clamp(30, 100, 40), Reveal(30, 40, 50, 30))
	}
	for _, n := range tooGreat() {
		testZero(t, "P23.1: Clamp", Clamp(n, 100, 40), n, 100, 40)
		testZero(t, "P23.1: Clamp", Clamp(30, n, 40), 30, n, 40)
		testZero(t, "P23.2: Reveal", Reveal(n, 40, 50, 30), n, 40, 50, 30)
		testZero(t, "P23.2: Reveal", Reveal(30, 40, n, 30), 30, 40, n, 30)
		testZero(t, "P23.2: Reveal", Reveal(30, 40, 50, n), 30, 40, 50, n)
		testZero(t, "P23.2: Reveal", Reveal(n, n, n, n), n, n, n, n)
		// A number that would not matter must be one, too.
		testZero(t, "P23.2: Reveal", Reveal(30, 40, 20, n), 30, 40, 20, n)
		testZero(t, "P23.2: Reveal", Reveal(n, 40, 50, 60), n, 40, 50, 60)
	}
	for _, n := range noHeights() {
		testZero(t, "P23.1: Clamp", Clamp(30, 100, n), 30, 100, n)
		testZero(t, "P23.1: Clamp", Clamp(30, most, n), 30, most, n)
		testZero(t, "P23.2: Reveal", Reveal(30, n, 50, 30), 30, n, 50, 30)
		testZero(t, "P23.2: Reveal", Reveal(30, n, 20, -5), 30, n, 20, -5)
		testZero(t, "P23.2: Reveal", Reveal(30, n, 20, -most), 30, n, 20, -most)
	}
}

func testZero(t *testing.T, name string, got int, arguments ...int) {
	t.Helper()
	if got != 0 {
		t.Errorf("%s%v = %d, want 0", name, arguments, got)
	}
}

func testNoneVisible(t *testing.T, rows []api.Strip, offset, height int) {
	t.Helper()
	if first, last := Visible(rows, offset, height); first != 0 || last != 0 {
		t.Errorf("P23.3: Visible(%s, %d, %d) = %d, %d, want 0, 0", show(rows), offset, height, first, last)
	}
}

func testNotKept(t *testing.T, old, rows []api.Strip, offset int) {
	t.Helper()
	if got := Keep(old, rows, offset); got != 0 {
		t.Errorf("P23.4: Keep(%s, %s, %d) = %d, want 0", show(old), show(rows), offset, got)
	}
}

// TestRefusedRows passes one bad number, or a list that is too long, to Visible and Keep.
func TestRefusedRows(t *testing.T) {
	rows := rowsOf(10, 20, 30, 40)
	now := append(rowsOf(5), rowsOf(7, 20, 30, 40)[1:]...)
	if first, last := Visible(rows, 15, 20); first != 1 || last != 3 {
		t.Fatalf("P23.3: Visible = %d, %d", first, last)
	}
	if got := Keep(rows, now, 15); got != 10 {
		t.Fatalf("P23.4: Keep = %d", got)
	}
	for _, n := range tooGreat() {
		testNoneVisible(t, rows, n, 20)
		testNotKept(t, rows, now, n)
	}
	for _, n := range noHeights() {
		testNoneVisible(t, rows, 15, n)
		for i := range rows {
			bad, badNow := slices.Clone(rows), slices.Clone(now)
			bad[i].Height, badNow[i].Height = n, n
			testNoneVisible(t, bad, 15, 20)
			testNotKept(t, bad, now, 15)
			testNotKept(t, rows, badNow, 15)
			testNotKept(t, bad, badNow, 15)
		}
		// The bad height is that of the last one of many rows.
		bad := equalRows(10)
		bad[9999].Height = n
		testNoneVisible(t, bad, 15, 20)
		testNotKept(t, bad, now, 15)
		testNotKept(t, rows, bad, 15)
	}
	for _, n := range []int{10001, 10002, 1 << 16} {
		many := slices.Repeat(rows, n)[:n]
		testNoneVisible(t, many, 15, 20)
		testNotKept(t, many, now, 15)
		testNotKept(t, rows, many, 15)
		testNotKept(t, many, many, 15)
	}
}

func testNotPinned(t *testing.T, l []api.Section, offset int) {
	t.Helper()
	if got := Pinned(l, offset); len(got) > 0 {
		t.Errorf("P23.5: Pinned(%s, %d) = %s, want none", show(l), offset, show(got))
	}
}

// TestRefusedSections passes one bad number, or a list that is too long, to Pinned.
func TestRefusedSections(t *testing.T) {
	sections := []api.Section{{Top: 0, Height: 50, Header: 10}, {Top: 50, Height: 30, Header: 8}, {Top: 80, Height: 100, Header: 10}}
	// spoiled returns sections, and among them the one at i as it is after the change.
	spoiled := func(i int, change func(s *api.Section)) []api.Section {
		l := slices.Clone(sections)
		change(&l[i])
		return l
	}
	for i := range sections {
		for _, n := range tooGreat() {
			testNotPinned(t, sections, n)
			testNotPinned(t, spoiled(i, func(s *api.Section) { s.Top = n }), 20)
		}
		for _, n := range noHeights() {
			testNotPinned(t, spoiled(i, func(s *api.Section) { s.Height = n }), 20)
			testNotPinned(t, spoiled(i, func(s *api.Section) { s.Header = n }), 20)
			testNotPinned(t, spoiled(i, func(s *api.Section) { s.Height, s.Header = n, n }), 20)
		}
	}
	for _, n := range []int{10001, 10002, 1 << 16} {
		testNotPinned(t, slices.Repeat(sections, n)[:n], 20)
	}
	many := slices.Repeat(sections, 3334)[:10000]
	if got := Pinned(many, 20); len(got) != 10000 {
		t.Errorf("P23.5: Pinned of 10000 sections: %d positions", len(got))
	}
	many[9999].Header = -1
	testNotPinned(t, many, 20)
}

package scroll

import (
	"math/rand/v2"
	"slices"
	"testing"

	"widgetry/api"
	"widgetry/fixed"
)

// The functions of this file that end in Read follow the sentences of chapter 23 one by one, for arguments that are not refused.

func clampRead(offset, content, height int) int {
	if content <= height {
		return 0
	}
	return fixed.Clamp(offset, 0, content-height)
}

func revealRead(offset, height, at, extent int) int {
	if at < offset || extent > height {
		return at
	}
	if at+extent > offset+height {
		return at + extent - height
	}
	return offset
}

// topRead is the sum of the heights of the rows before the one at i.
func topRead(rows []api.Strip, i int) int {
	sum := 0
	for _, r := range rows[:i] {
		sum += r.Height
	}
	return sum
}

func bottomRead(rows []api.Strip, i int) int { return topRead(rows, i+1) }

func visibleRead(rows []api.Strip, offset, height int) (int, int) {
	first := len(rows)
	for i := len(rows) - 1; i >= 0; i-- {
		if bottomRead(rows, i) > offset {
			first = i
		}
	}
	last := len(rows)
	for i := len(rows) - 1; i >= first; i-- {
		if topRead(rows, i) >= offset+height {
			last = i
		}
	}
	return first, last
}

// firstWithRead returns the index of the first row with the key, or -1.
func firstWithRead(rows []api.Strip, key string) int {
	return slices.IndexFunc(rows, func(r api.Strip) bool { return r.Key == key })
}

// anchorRead returns the index of the anchor in old, or -1.
func anchorRead(old, rows []api.Strip, offset int) int {
	for i, r := range old {
		if bottomRead(old, i) > offset && firstWithRead(rows, r.Key) >= 0 {
			return i
		}
	}
	for i := len(old) - 1; i >= 0; i-- {
		if firstWithRead(rows, old[i].Key) >= 0 {
			return i
		}
	}
	return -1
}

func keepRead(old, rows []api.Strip, offset int) int {
	anchor := anchorRead(old, rows, offset)
	if anchor < 0 {
		return 0
	}
	return topRead(rows, firstWithRead(rows, old[anchor].Key)) + offset - topRead(old, anchor)
}

func pinnedRead(l []api.Section, offset int) []int {
	var positions []int
	for _, s := range l {
		position := offset
		if lowest := s.Top + s.Height - s.Header; position > lowest {
			position = lowest
		}
		if position < s.Top || s.Header > s.Height {
			position = s.Top
		}
		positions = append(positions, position)
	}
	return positions
}

// TestAllClamps compares Clamp with its reading for all small numbers.
func TestAllClamps(t *testing.T) {
	for offset := -8; offset <= 8; offset++ {
		for content := -8; content <= 8; content++ {
			for height := range 9 {
				testClamp(t, offset, content, height)
			}
		}
	}
}

func testClamp(t *testing.T, offset, content, height int) {
	t.Helper()
	if got, want := Clamp(offset, content, height), clampRead(offset, content, height); got != want {
		t.Fatalf("P23.1: Clamp(%d, %d, %d) = %d, want %d", offset, content, height, got, want)
	}
}

// TestAllReveals compares Reveal with its reading for all small numbers.
func TestAllReveals(t *testing.T) {
	for offset := -6; offset <= 6; offset++ {
		for height := range 8 {
			for at := -8; at <= 8; at++ {
				for extent := -8; extent <= 8; extent++ {
					testReveal(t, offset, height, at, extent)
				}
			}
		}
	}
}

// testReveal compares Reveal with its reading, and checks P23.6.
func testReveal(t *testing.T, offset, height, at, extent int) {
	t.Helper()
	got, want := Reveal(offset, height, at, extent), revealRead(offset, height, at, extent)
	if got != want {
		t.Fatalf("P23.2: Reveal(%d, %d, %d, %d) = %d, want %d", offset, height, at, extent, got, want)
	}
	if again := Reveal(got, height, at, extent); again != got {
		t.Fatalf("P23.6: Reveal(%d, %d, %d, %d) = %d, but again %d", offset, height, at, extent, got, again)
	}
	shown := func(offset int) bool { return offset <= at && at+extent <= offset+height }
	if extent > height {
		return
	}
	if !shown(got) {
		t.Fatalf("P23.6: Reveal(%d, %d, %d, %d) = %d: the part is not visible", offset, height, at, extent, got)
	}
	// One pixel less is not enough, so that the movement is the least.
	if got < offset && shown(got+1) || got > offset && shown(got-1) {
		t.Fatalf("P23.2: Reveal(%d, %d, %d, %d) = %d, but less is enough", offset, height, at, extent, got)
	}
}

// listsOf calls f with each list of at most n elements of l.
func listsOf[T any](n int, l []T, f func(list []T)) {
	var extend func(list []T)
	extend = func(list []T) {
		f(list)
		if len(list) == n {
			return
		}
		for _, x := range l {
			extend(append(slices.Clone(list), x))
		}
	}
	extend(nil)
}

// TestAllVisible compares Visible with its reading for all lists of few and low rows.
func TestAllVisible(t *testing.T) {
	listsOf(5, []int{0, 1, 3}, func(heights []int) {
		rows := rowsOf(heights...)
		for offset := -3; offset <= 16; offset++ {
			for height := range 6 {
				testVisible(t, rows, offset, height)
			}
		}
	})
}

// testVisible compares Visible with its reading, and checks P23.6.
func testVisible(t *testing.T, rows []api.Strip, offset, height int) {
	t.Helper()
	first, last := Visible(rows, offset, height)
	if f, l := visibleRead(rows, offset, height); first != f || last != l {
		t.Fatalf("P23.3: Visible(%v, %d, %d) = %d, %d, want %d, %d", rows, offset, height, first, last, f, l)
	}
	for i, r := range rows {
		if r.Height == 0 || height == 0 {
			continue
		}
		inside := topRead(rows, i) < offset+height && bottomRead(rows, i) > offset
		if inside != (first <= i && i < last) {
			t.Fatalf("P23.6: Visible(%v, %d, %d) = %d, %d: the row %d intersects the viewport: %v", rows, offset, height, first, last, i, inside)
		}
	}
}

// TestAllKept compares Keep with its reading for all lists of few rows with few keys.
func TestAllKept(t *testing.T) {
	some := []api.Strip{row("a", 0), row("a", 2), row("b", 2), row("c", 1)}
	listsOf(3, some, func(old []api.Strip) {
		listsOf(3, some, func(rows []api.Strip) {
			for offset := -1; offset <= 7; offset++ {
				testKeep(t, old, rows, offset)
			}
		})
	})
}

// testKeep compares Keep with its reading, and checks P23.6.
func testKeep(t *testing.T, old, rows []api.Strip, offset int) {
	t.Helper()
	if got, want := Keep(old, rows, offset), keepRead(old, rows, offset); got != want {
		t.Fatalf("P23.4: Keep(%v, %v, %d) = %d, want %d", old, rows, offset, got, want)
	}
	for i, r := range old {
		if firstWithRead(old, r.Key) < i {
			return
		}
	}
	if got := Keep(old, slices.Clone(old), offset); len(old) > 0 && got != offset {
		t.Fatalf("P23.6: Keep(%v, the same, %d) = %d", old, offset, got)
	}
}

// TestAllPinned compares Pinned with its reading for all small numbers.
func TestAllPinned(t *testing.T) {
	for top := -4; top <= 4; top++ {
		for height := range 7 {
			for header := range 9 {
				for offset := -6; offset <= 14; offset++ {
					testPinned(t, []api.Section{{Top: top, Height: height, Header: header}}, offset)
				}
			}
		}
	}
}

func testPinned(t *testing.T, l []api.Section, offset int) {
	t.Helper()
	if got, want := Pinned(l, offset), pinnedRead(l, offset); !slices.Equal(got, want) {
		t.Fatalf("P23.5: Pinned(%v, %d) = %v, want %v", l, offset, got, want)
	}
}

// TestChance compares all functions with their readings for numbers and lists made by chance, the same in each run.
func TestChance(t *testing.T) {
	m := rand.New(rand.NewPCG(23, 1))
	for round := range 20000 {
		limit := []int{10, 100, 10000, most}[round%4]
		length := func() int { return m.IntN(limit + 1) }
		number := func() int { return m.IntN(2*limit+1) - limit }
		rows := func() []api.Strip {
			var l []api.Strip
			for range m.IntN(12) {
				l = append(l, row(string(rune('a'+m.IntN(20))), length()*m.IntN(4)/3))
			}
			return l
		}
		testClamp(t, number(), number(), length())
		testReveal(t, number(), length(), number(), number())
		testReveal(t, number(), length(), number(), length()/4)
		old, now := rows(), rows()
		testVisible(t, old, number(), length())
		offset := length()
		testVisible(t, old, offset, length()/4)
		testKeep(t, old, now, offset)
		testKeep(t, old, now, number())
		// Nothing but the order has changed.
		now = slices.Clone(old)
		m.Shuffle(len(now), func(i, j int) { now[i], now[j] = now[j], now[i] })
		testKeep(t, old, now, offset)
		var sections []api.Section
		for range m.IntN(5) {
			sections = append(sections, api.Section{Top: number(), Height: length(), Header: length() / (1 + m.IntN(3))})
		}
		testPinned(t, sections, number())
	}
}

// TestKeepsThePlace checks what Keep is for: the anchor stands where it did on the screen.
func TestKeepsThePlace(t *testing.T) {
	m := rand.New(rand.NewPCG(23, 2))
	for range 2000 {
		var old []api.Strip
		for i := range 1 + m.IntN(12) {
			old = append(old, row(string(rune('a'+i)), 1+m.IntN(30)))
		}
		now := slices.Clone(old)
		m.Shuffle(len(now), func(i, j int) { now[i], now[j] = now[j], now[i] })
		offset := m.IntN(topRead(old, len(old)))
		anchor, _ := Visible(old, offset, 1)
		moved := Keep(old, now, offset)
		if before, after := topRead(old, anchor)-offset, topRead(now, firstWithRead(now, old[anchor].Key))-moved; before != after {
			t.Fatalf("P23.4: Keep(%v, %v, %d) = %d: the row %d was at %d and is at %d", old, now, offset, moved, anchor, before, after)
		}
	}
}

// TestMemory looks for arguments that have changed, and for results that do (R2).
func TestMemory(t *testing.T) {
	old, now := rowsOf(10, 0, 30), rowsOf(5, 20)
	sections := []api.Section{{Top: 0, Height: 50, Header: 10}, {Top: 50, Height: 30, Header: 8}}
	oldBefore, nowBefore, sectionsBefore := slices.Clone(old), slices.Clone(now), slices.Clone(sections)
	Visible(old, 5, 20)
	Keep(old, now, 15)
	first := Pinned(sections, 15)
	want := slices.Clone(first)
	second := Pinned(sections, 15)
	clear(second)
	if !slices.Equal(first, want) {
		t.Errorf("R2: the result %v of Pinned has become %v", want, first)
	}
	if !slices.Equal(old, oldBefore) || !slices.Equal(now, nowBefore) || !slices.Equal(sections, sectionsBefore) {
		t.Errorf("R2: the arguments have become %v, %v, %v", old, now, sections)
	}
}

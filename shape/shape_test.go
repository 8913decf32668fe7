package shape

import (
	"math"
	"slices"
	"testing"

	"widgetry/api"
	"widgetry/char"
	"widgetry/fixed"
	"widgetry/font"
	"widgetry/segment"
)

// sample returns a font of 100 units, so that at size 100 a pixel is a unit.
func sample() api.Font {
	return api.Font{
		Units: 100, Ascent: 80, Descent: 20, Default: 50,
		Advances: []api.Advance{{From: ' ', To: ' ', Width: 25}, {From: 'i', To: 'i', Width: 30}, {From: 'x', To: 'x', Width: 5}, {From: 0x627, To: 0x64A, Width: 60}},
		Kerns: []api.Kern{
			{A: '(', B: 'a', D: 3}, {A: ')', B: 'a', D: 400}, {A: 'A', B: 'V', D: -8}, {A: 'V', B: 'A', D: -7}, {A: 'a', B: ')', D: 2}, {A: 'a', B: 0x300, D: 500}, {A: 'f', B: 'f', D: 500},
			{A: 'f', B: 'i', D: 600}, {A: 'i', B: 'x', D: -9}, {A: 'x', B: 'f', D: 4}, {A: 'x', B: 'i', D: -6}, {A: 'x', B: 'x', D: -5}, {A: 0x300, B: 'a', D: -1}, {A: 0x300, B: 'b', D: 6}, {A: 0x627, B: 'x', D: 11}, {A: 0x628, B: 0x628, D: -13},
		},
		Ligatures: []api.Ligature{
			{A: '(', B: ')', Glyph: 0x110005, Width: 77}, {A: 'a', B: 0x300, Glyph: 0x110006, Width: 78}, {A: 'f', B: 'f', Glyph: 0x110000, Width: 90},
			{A: 'f', B: 'i', Glyph: 0x110001, Width: 71}, {A: 0x644, B: 0x627, Glyph: 0x1FFFFF, Width: 62},
		},
	}
}

// glyph is what differs between the glyphs of a run.
type glyph struct{ id, form, from, to, advance int }

// checkRun compares the glyphs of a run, from left to right, and the fields that follow from them.
func checkRun(t *testing.T, name string, got []api.Glyph, face, size int, want []glyph) {
	t.Helper()
	expected, x := make([]api.Glyph, len(want)), 0
	for i, g := range want {
		expected[i] = api.Glyph{ID: g.id, Form: g.form, From: g.from, To: g.to, X: x, Advance: g.advance, Font: face, Size: size}
		x += g.advance
	}
	if !slices.Equal(got, expected) {
		t.Errorf("P8.2: %s: the glyphs are\n%v, want\n%v", name, got, expected)
	}
	if Width(got) != x {
		t.Errorf("P8.3: %s: Width = %d, want %d", name, Width(got), x)
	}
}

func TestRunLeftToRight(t *testing.T) {
	tests := []struct {
		name string
		t    []rune
		want []glyph
	}{
		{"no runes", nil, nil},
		{"single runes", []rune("a b"), []glyph{{'a', 0, 0, 1, 50}, {' ', 0, 1, 2, 25}, {'b', 0, 2, 3, 50}}},
		{"forms", []rune{dual, right, dual}, []glyph{{0x628, initial, 0, 1, 60}, {0x627, final, 1, 2, 60}, {0x628, alone, 2, 3, 60}}},
		{"runes without an advance", []rune{'a', 0x301, 0x200D, '\n', 'b'}, []glyph{{'a', 0, 0, 1, 50}, {0x301, 0, 1, 2, 0}, {0x200D, 0, 2, 3, 0}, {'\n', 0, 3, 4, 0}, {'b', 0, 4, 5, 50}}},
		{"nothing is mirrored", []rune("(<"), []glyph{{'(', 0, 0, 1, 50}, {'<', 0, 1, 2, 50}}},
		{"numbers that are no runes", []rune{-5, math.MaxInt32}, []glyph{{-5, 0, 0, 1, 50}, {math.MaxInt32, 0, 1, 2, 50}}},
		{"a ligature", []rune("fi"), []glyph{{0x110001, 0, 0, 2, 71}}},
		{"a ligature has no form", []rune{0x628, 0x644, 0x627}, []glyph{{0x628, initial, 0, 1, 60}, {0x1FFFFF, alone, 1, 3, 62}}},
		{"the first pair wins", []rune("fffi"), []glyph{{0x110000, 0, 0, 2, 590}, {0x110001, 0, 2, 4, 71}}},
		{"a ligature takes part in one pair", []rune("ffi"), []glyph{{0x110000, 0, 0, 2, 690}, {'i', 0, 2, 3, 30}}},
		{"no ligature with a mark between", []rune{'f', 0x301, 'i'}, []glyph{{'f', 0, 0, 1, 50}, {0x301, 0, 1, 2, 0}, {'i', 0, 2, 3, 30}}},
		{"no ligature with a mark after", []rune{'f', 'i', 0x301}, []glyph{{'f', 0, 0, 1, 650}, {'i', 0, 1, 2, 30}, {0x301, 0, 2, 3, 0}}},
		{"no ligature with a prefix", []rune{0x600, 'f', 'i'}, []glyph{{0x600, 0, 0, 1, 50}, {'f', 0, 1, 2, 650}, {'i', 0, 2, 3, 30}}},
		{"no ligature of one cluster", []rune{'a', 0x300}, []glyph{{'a', 0, 0, 1, 50}, {0x300, 0, 1, 2, 0}}},
		{"kerning", []rune("AVA"), []glyph{{'A', 0, 0, 1, 42}, {'V', 0, 1, 2, 43}, {'A', 0, 2, 3, 50}}},
		{"no kerning in a cluster, but after it", []rune{'a', 0x300, 'b'}, []glyph{{'a', 0, 0, 1, 50}, {0x300, 0, 1, 2, 6}, {'b', 0, 2, 3, 50}}},
		{"the advance is at least 0", []rune{'x', 'i', 'a', 0x300, 'a'}, []glyph{{'x', 0, 0, 1, 0}, {'i', 0, 1, 2, 30}, {'a', 0, 2, 3, 50}, {0x300, 0, 3, 4, 0}, {'a', 0, 4, 5, 50}}},
		{"the advance is 0", []rune("xx"), []glyph{{'x', 0, 0, 1, 0}, {'x', 0, 1, 2, 5}}},
		{"kerning around a ligature", []rune("xfix"), []glyph{{'x', 0, 0, 1, 9}, {0x110001, 0, 1, 3, 62}, {'x', 0, 3, 4, 5}}},
		{"kerning by the runes, not by their ligature", []rune("ffii"), []glyph{{0x110000, 0, 0, 2, 690}, {'i', 0, 2, 3, 30}, {'i', 0, 3, 4, 30}}},
	}
	for _, x := range tests {
		checkRun(t, x.name, Run(sample(), 3, 100, x.t, 0, len(x.t), false), 3, 100, x.want)
	}
}

func TestRunRightToLeft(t *testing.T) {
	tests := []struct {
		name string
		t    []rune
		want []glyph
	}{
		{"no runes", nil, nil},
		{"the order is reversed", []rune("abc"), []glyph{{'c', 0, 2, 3, 50}, {'b', 0, 1, 2, 50}, {'a', 0, 0, 1, 50}}},
		{"marks follow their base", []rune{'a', 'b', 0x301, 0x302, 'c', 0x303}, []glyph{{'c', 0, 4, 5, 50}, {0x303, 0, 5, 6, 0}, {'b', 0, 1, 2, 50}, {0x301, 0, 2, 3, 0}, {0x302, 0, 3, 4, 0}, {'a', 0, 0, 1, 50}}},
		{"a cluster at the beginning", []rune{0x5D0, 0x5B0, 0x5D1}, []glyph{{0x5D1, 0, 2, 3, 50}, {0x5D0, 0, 0, 1, 50}, {0x5B0, 0, 1, 2, 0}}},
		{"CR and LF", []rune("a\r\n"), []glyph{{'\r', 0, 1, 2, 0}, {'\n', 0, 2, 3, 0}, {'a', 0, 0, 1, 50}}},
		{"mirrored runes", []rune("<b]"), []glyph{{'[', 0, 2, 3, 50}, {'b', 0, 1, 2, 50}, {'>', 0, 0, 1, 50}}},
		{"the advances and kerns are those of the text", []rune("(a)"), []glyph{{'(', 0, 2, 3, 50}, {'a', 0, 1, 2, 52}, {')', 0, 0, 1, 53}}},
		{"a ligature of mirrored runes", []rune("()"), []glyph{{0x110005, 0, 0, 2, 77}}},
		{"no ligature of the mirrored order", []rune(")("), []glyph{{')', 0, 1, 2, 50}, {'(', 0, 0, 1, 50}}},
		{"ligatures in logical order", []rune{0x628, 0x644, 0x627, 'x'}, []glyph{{'x', 0, 3, 4, 5}, {0x1FFFFF, 0, 1, 3, 73}, {0x628, initial, 0, 1, 60}}},
		{"the first pair in logical order wins", []rune("ffi"), []glyph{{'i', 0, 2, 3, 30}, {0x110000, 0, 0, 2, 690}}},
		{"kerns in logical order", []rune("AVA"), []glyph{{'A', 0, 2, 3, 50}, {'V', 0, 1, 2, 43}, {'A', 0, 0, 1, 42}}},
		{"a kern after a mark", []rune{'a', 0x300, 'b'}, []glyph{{'b', 0, 2, 3, 50}, {'a', 0, 0, 1, 50}, {0x300, 0, 1, 2, 6}}},
		{"the advance is at least 0", []rune{dual, dual, 0x644, dual}, []glyph{{0x628, final, 3, 4, 60}, {0x644, medial, 2, 3, 60}, {0x628, medial, 1, 2, 60}, {0x628, initial, 0, 1, 47}}},
	}
	for _, x := range tests {
		checkRun(t, x.name, Run(sample(), 0, 100, x.t, 0, len(x.t), true), 0, 100, x.want)
	}
}

// TestRunParts examines runs whose ends lie inside the text: in clusters, in ligatures and between letters that join.
func TestRunParts(t *testing.T) {
	tests := []struct {
		name     string
		t        []rune
		from, to int
		right    bool
		want     []glyph
	}{
		{"nothing", []rune("abc"), 1, 1, false, nil},
		{"nothing at the end", []rune("abc"), 3, 3, true, nil},
		{"the forms of the whole text", []rune{dual, dual, dual}, 1, 2, true, []glyph{{0x628, medial, 1, 2, 60}}},
		{"half a ligature", []rune("fif"), 1, 3, false, []glyph{{'i', 0, 1, 2, 30}, {'f', 0, 2, 3, 50}}},
		{"the other half", []rune("fi"), 0, 1, false, []glyph{{'f', 0, 0, 1, 50}}},
		{"a ligature before a mark outside", []rune{'f', 'i', 0x301}, 0, 2, false, []glyph{{'f', 0, 0, 1, 650}, {'i', 0, 1, 2, 30}}},
		{"a ligature after a prefix outside", []rune{0x600, 'f', 'i'}, 1, 3, false, []glyph{{'f', 0, 1, 2, 650}, {'i', 0, 2, 3, 30}}},
		{"a ligature in the middle", []rune("afib"), 1, 3, false, []glyph{{0x110001, 0, 1, 3, 71}}},
		{"no kerning with what follows the run", []rune("AV"), 0, 1, false, []glyph{{'A', 0, 0, 1, 50}}},
		{"clusters that are cut", []rune{'a', 0x301, 'b', 0x302, 0x303}, 1, 4, true, []glyph{{'b', 0, 2, 3, 50}, {0x302, 0, 3, 4, 0}, {0x301, 0, 1, 2, 0}}},
		{"within a cluster", []rune{'a', 0x301, 0x302, 0x303}, 1, 3, true, []glyph{{0x301, 0, 1, 2, 0}, {0x302, 0, 2, 3, 0}}},
	}
	for _, x := range tests {
		checkRun(t, x.name, Run(sample(), 0, 100, x.t, x.from, x.to, x.right), 0, 100, x.want)
	}
}

func TestRunSizes(t *testing.T) {
	text := []rune("AVfi")
	// 50, -8 and 71 units of 100.
	checkRun(t, "size 10", Run(sample(), 0, 10, text, 0, 4, false), 0, 10, []glyph{{'A', 0, 0, 1, 4}, {'V', 0, 1, 2, 5}, {0x110001, 0, 2, 4, 7}})
	checkRun(t, "size 15", Run(sample(), 0, 15, text, 0, 4, false), 0, 15, []glyph{{'A', 0, 0, 1, 7}, {'V', 0, 1, 2, 8}, {0x110001, 0, 2, 4, 11}})
	checkRun(t, "size 1", Run(sample(), 0, 1, text, 0, 4, false), 0, 1, []glyph{{'A', 0, 0, 1, 1}, {'V', 0, 1, 2, 1}, {0x110001, 0, 2, 4, 1}})
	checkRun(t, "size 1000", Run(sample(), -9, 1000, text, 0, 4, false), -9, 1000, []glyph{{'A', 0, 0, 1, 420}, {'V', 0, 1, 2, 500}, {0x110001, 0, 2, 4, 710}})
}

func TestRunRefuses(t *testing.T) {
	text, long := []rune("abc"), slices.Repeat([]rune{'a'}, 2001)
	invalid := sample()
	invalid.Units = 15
	tests := []struct {
		name     string
		f        api.Font
		size     int
		t        []rune
		from, to int
	}{
		{"a font that is not valid", invalid, 100, text, 0, 3},
		{"the zero font", api.Font{}, 100, text, 0, 3},
		{"size 0", sample(), 0, text, 0, 3},
		{"size -1", sample(), -1, text, 0, 3},
		{"size 1001", sample(), 1001, text, 0, 3},
		{"a text that is too long", sample(), 100, long, 0, 3},
		{"from below 0", sample(), 100, text, -1, 3},
		{"to beyond the text", sample(), 100, text, 0, 4},
		{"from above to", sample(), 100, text, 2, 1},
		{"both below 0", sample(), 100, text, -2, -1},
		{"both beyond the text", sample(), 100, text, 4, 4},
		{"the greatest numbers", sample(), math.MaxInt, text, math.MinInt, math.MaxInt},
		{"the least numbers", sample(), 100, text, math.MaxInt, math.MinInt},
		{"no runes in an empty text", sample(), 100, nil, 0, 1},
	}
	for _, x := range tests {
		for _, right := range []bool{false, true} {
			if got := Run(x.f, 0, x.size, x.t, x.from, x.to, right); len(got) != 0 {
				t.Errorf("P8.2: %s: %d glyphs", x.name, len(got))
			}
		}
	}
	if got := Run(sample(), 0, 100, long[:2000], 0, 2000, true); len(got) != 2000 || got[0].From != 1999 || got[1999].X != 1999*50 {
		t.Errorf("P8.2: 2000 runes have %d glyphs", len(got))
	}
}

func TestWidth(t *testing.T) {
	if got := Width(nil); got != 0 {
		t.Errorf("P8.3: Width of no glyphs = %d", got)
	}
	// Only the advances count.
	l := []api.Glyph{{X: 100, Advance: 7, To: 5}, {X: -3, Advance: 0}, {ID: 9, Advance: 5, Size: 3}, {Advance: -4}}
	if got := Width(l); got != 8 {
		t.Errorf("P8.3: Width = %d, want 8", got)
	}
}

// expectedRun is P8.2, read step by step: the glyphs in logical order, their clusters, and the order of these.
func expectedRun(f api.Font, face, size int, t []rune, from, to int, right bool) []api.Glyph {
	clusters := segment.Clusters(t)
	boundary := func(at int) bool { return slices.Contains(clusters, at) }
	var logical []api.Glyph
	for at := from; at < to; {
		g := api.Glyph{ID: int(t[at]), Form: expectedForm(t, at), From: at, To: at + 1, Advance: font.Advance(f, size, t[at]), Font: face, Size: size}
		if right {
			g.ID = int(char.Mirror(t[at]))
		}
		if at+1 < to && boundary(at) && boundary(at+1) && boundary(at+2) {
			if l, ok := font.Ligature(f, t[at], t[at+1]); ok {
				g.ID, g.Form, g.To, g.Advance = l.Glyph, alone, at+2, fixed.Round(l.Width*size, f.Units)
			}
		}
		logical, at = append(logical, g), g.To
	}
	for i := range logical {
		if end := logical[i].To; end < to && boundary(end) {
			logical[i].Advance = max(0, logical[i].Advance+font.Kern(f, size, t[end-1], t[end]))
		}
	}
	visual := logical
	if right {
		// Each glyph goes before all others, or after those of its own cluster.
		visual = nil
		for i, g := range logical {
			place := 0
			for j := i; j > 0 && !boundary(logical[j].From); j-- {
				place++
			}
			visual = slices.Insert(visual, place, g)
		}
	}
	x := 0
	for i := range visual {
		visual[i].X = x
		x += visual[i].Advance
	}
	return visual
}

// TestRunsOfAllTexts compares Run with the chapter for all runs of all short texts over runes of many kinds, and checks P8.4.
func TestRunsOfAllTexts(t *testing.T) {
	f := sample()
	for length := range 5 {
		everyText([]rune{'f', 'i', 'x', '(', ')', 0x300, 0x628, 0x644, 0x627, 0x600, '\n'}, length, func(text []rune) {
			checkRuns(t, f, text)
		})
	}
	everyText([]rune{'f', 'a', 0x300}, 7, func(text []rune) { checkRuns(t, f, text) })
	everyText([]rune{'f', 'i', 0x1F1E6, 0x200D, 0x1F600, 0x1100, 0x1161, '\r', '\n'}, 4, func(text []rune) { checkRuns(t, f, text) })
}

// checkRuns compares all runs of a text.
func checkRuns(t *testing.T, f api.Font, text []rune) {
	t.Helper()
	for from := range len(text) + 1 {
		for to := from; to <= len(text); to++ {
			for _, right := range []bool{false, true} {
				got := Run(f, 2, 100, text, from, to, right)
				if want := expectedRun(f, 2, 100, text, from, to, right); !slices.Equal(got, want) {
					t.Fatalf("P8.2: Run(%x, %d, %d, %v) =\n%v, want\n%v", text, from, to, right, got, want)
				}
				checkCover(t, got, from, to)
			}
		}
	}
}

// checkCover checks P8.4.
func checkCover(t *testing.T, glyphs []api.Glyph, from, to int) {
	t.Helper()
	sorted := slices.Clone(glyphs)
	slices.SortFunc(sorted, func(a, b api.Glyph) int { return a.From - b.From })
	for _, g := range sorted {
		if g.From != from || g.To <= g.From {
			t.Fatalf("P8.4: the glyph of the runes %d to %d follows the rune %d", g.From, g.To, from)
		}
		from = g.To
	}
	if from != to {
		t.Fatalf("P8.4: the glyphs end at %d, not at %d", from, to)
	}
}

func TestArgumentsUnchanged(t *testing.T) {
	f, text := sample(), []rune("(fi\u0301)AV")
	first := Run(f, 0, 100, text, 0, len(text), true)
	kept := slices.Clone(first)
	second := Run(f, 0, 100, text, 0, len(text), true)
	Width(first)
	second[0].X = 1000
	if !slices.Equal(first, kept) || string(text) != "(fi\u0301)AV" {
		t.Errorf("R2: the glyphs have become %v, the text %q", first, string(text))
	}
	g := sample()
	if !slices.Equal(f.Advances, g.Advances) || !slices.Equal(f.Kerns, g.Kerns) || !slices.Equal(f.Ligatures, g.Ligatures) {
		t.Errorf("R2: the font has become %v", f)
	}
}

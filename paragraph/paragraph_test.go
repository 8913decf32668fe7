package paragraph

import (
	"slices"
	"testing"

	"widgetry/api"
)

const (
	alef  = rune(0x5D0)
	bet   = rune(0x5D1)
	gimel = rune(0x5D2)
	dalet = rune(0x5D3)
	acute = rune(0x301)
	kanji = rune(0x4E00) // a line may end before and after it
	moon  = rune(0x4E01)
	sun   = rune(0x4E02)
)

// sample returns a font of 100 units, so that at size 100 a pixel is a unit: 50 for letters and 25 for a space.
func sample() api.Font {
	return api.Font{
		Units: 100, Ascent: 80, Descent: 20, Gap: 10, Default: 50,
		Advances: []api.Advance{{From: ' ', To: ' ', Width: 25}, {From: '.', To: '.', Width: 7}},
		Kerns: []api.Kern{
			{A: ' ', B: 'V', D: 9}, {A: 'A', B: 'V', D: -8}, {A: 'V', B: ' ', D: 30}, {A: 'V', B: 'A', D: -500}, {A: 'a', B: acute, D: 300}, {A: 'w', B: ' ', D: -60}, {A: 'w', B: 'w', D: 400},
		},
		Ligatures: []api.Ligature{
			{A: ' ', B: '\n', Glyph: 0x110003, Width: 41}, {A: ' ', B: '_', Glyph: 0x110004, Width: 43}, {A: 'a', B: acute, Glyph: 0x110006, Width: 500}, {A: 'f', B: ' ', Glyph: 0x110001, Width: 60}, {A: 'f', B: 'f', Glyph: 0x110002, Width: 90},
			{A: 'f', B: 'i', Glyph: 0x110000, Width: 3}, {A: moon, B: sun, Glyph: 0x110005, Width: 3},
		},
	}
}

// flat returns a font whose lines reach further down than up; at size 100 its glyphs have the width 10.
func flat() api.Font {
	return api.Font{Units: 100, Ascent: 30, Descent: 60, Default: 10}
}

func fonts() []api.Font { return []api.Font{sample(), flat()} }

// plain returns a paragraph with one span, in the first font at size 100.
func plain(text []rune, base, width int) api.Paragraph {
	return api.Paragraph{Text: text, Spans: []api.Span{{From: 0, To: len(text), Font: 0, Size: 100}}, Base: base, Width: width}
}

// spansOf returns spans from their ends, fonts and sizes.
func spansOf(rows [][4]int) []api.Span {
	var spans []api.Span
	for _, r := range rows {
		spans = append(spans, api.Span{From: r[0], To: r[1], Font: r[2], Size: r[3]})
	}
	return spans
}

// spanned returns a paragraph whose spans end at the positions; they have the two fonts by turns, at size 100.
func spanned(text []rune, base, width int, ends ...int) api.Paragraph {
	p := api.Paragraph{Text: text, Base: base, Width: width}
	from := 0
	for i, to := range ends {
		p.Spans = append(p.Spans, api.Span{From: from, To: to, Font: i % 2, Size: 100})
		from = to
	}
	return p
}

// linesOf returns the lines of a valid paragraph.
func linesOf(t *testing.T, p api.Paragraph) []api.Line {
	t.Helper()
	l, e := Lines(p, fonts())
	if e != api.OK {
		t.Fatalf("P9.5: Lines of %x: error %d", p.Text, e)
	}
	return l
}

// extent is where a line begins and ends, and its width.
type extent struct{ from, to, width int }

func extents(l []api.Line) []extent {
	var found []extent
	for _, line := range l {
		found = append(found, extent{line.From, line.To, line.Width})
	}
	return found
}

type breakTest struct {
	name  string
	text  []rune
	width int
	want  []extent
}

func checkBreaks(t *testing.T, promise string, tests []breakTest) {
	t.Helper()
	for _, x := range tests {
		if got := extents(linesOf(t, plain(x.text, api.BaseLeft, x.width))); !slices.Equal(got, x.want) {
			t.Errorf("%s: %s: the lines of %x at width %d are %v, want %v", promise, x.name, x.text, x.width, got, x.want)
		}
	}
}

func TestSections(t *testing.T) {
	const wide = api.MaxLength
	checkBreaks(t, "P9.2", []breakTest{
		{"no text", nil, 0, []extent{{0, 0, 0}}},
		{"no text", []rune{}, wide, []extent{{0, 0, 0}}},
		{"one rune", []rune("a"), wide, []extent{{0, 1, 50}}},
		{"a line feed within", []rune("a\nbc"), wide, []extent{{0, 2, 50}, {2, 4, 100}}},
		{"a line feed at the end", []rune("a\n"), wide, []extent{{0, 2, 50}, {2, 2, 0}}},
		{"only a line feed", []rune("\n"), wide, []extent{{0, 1, 0}, {1, 1, 0}}},
		{"line feeds", []rune("\n\na"), wide, []extent{{0, 1, 0}, {1, 2, 0}, {2, 3, 50}}},
		{"CR and LF are one", []rune("a\r\nb\r\n"), wide, []extent{{0, 3, 50}, {3, 6, 50}, {6, 6, 0}}},
		{"LF and CR are two", []rune("\n\r"), wide, []extent{{0, 1, 0}, {1, 2, 0}, {2, 2, 0}}},
		{"CR alone", []rune("a\rb\r"), wide, []extent{{0, 2, 50}, {2, 4, 50}, {4, 4, 0}}},
		{"BK", []rune{'a', 0x2028, 0x0B, 0x0C, 0x85, 0x2029}, wide, []extent{{0, 2, 50}, {2, 3, 0}, {3, 4, 0}, {4, 5, 0}, {5, 6, 0}, {6, 6, 0}}},
		{"a space at the end ends no section", []rune("a "), wide, []extent{{0, 2, 75}}},
		{"a mark after a line feed", []rune{'\n', acute}, wide, []extent{{0, 1, 0}, {1, 2, 0}}},
	})
}

// TestSectionLevels examines the base levels of sections, which do not depend on one another.
func TestSectionLevels(t *testing.T) {
	text := []rune{'1', '\n', alef, ' ', 'b', '\n', 'a', ' ', alef, '\n'}
	for _, x := range []struct {
		base int
		want []int
	}{
		{api.BaseAuto, []int{0, 1, 0, 0}}, {api.BaseLeft, []int{0, 0, 0, 0}}, {api.BaseRight, []int{1, 1, 1, 1}},
	} {
		var got []int
		for _, line := range linesOf(t, plain(text, x.base, api.MaxLength)) {
			got = append(got, line.Level)
		}
		if !slices.Equal(got, x.want) {
			t.Errorf("P9.2: with the base %d the sections have the levels %v, want %v", x.base, got, x.want)
		}
	}
	for _, base := range []int{api.BaseAuto, api.BaseLeft, api.BaseRight} {
		if got := linesOf(t, plain(nil, base, 0)); len(got) != 1 || got[0].Level != max(base, 0) {
			t.Errorf("P9.2: with the base %d the lines of no text are %v", base, got)
		}
	}
	// All lines of a section have its level, whatever stands in them.
	for _, line := range linesOf(t, plain([]rune{alef, ' ', 'a', ' ', 'b'}, api.BaseAuto, 50)) {
		if line.Level != 1 {
			t.Errorf("P9.2: a line of a section from right to left has the level %d", line.Level)
		}
	}
}

func TestBreaking(t *testing.T) {
	checkBreaks(t, "P9.4", []breakTest{
		{"the example", []rune("ab cd"), 120, []extent{{0, 3, 100}, {3, 5, 100}}},
		{"exactly wide enough", []rune("ab cd"), 225, []extent{{0, 5, 225}}},
		{"too narrow by 1", []rune("ab cd"), 224, []extent{{0, 3, 100}, {3, 5, 100}}},
		{"as many words as fit", []rune("a b c d e"), 200, []extent{{0, 6, 200}, {6, 9, 125}}},
		{"white space at the end needs no room", []rune("ab    cd"), 100, []extent{{0, 6, 100}, {6, 8, 100}}},
		{"nor before a line feed", []rune("ab  \r\ncd"), 100, []extent{{0, 6, 150}, {6, 8, 100}}},
		{"nor at the end of the text", []rune("ab  "), 100, []extent{{0, 4, 150}}},
		{"only white space", []rune("   "), 0, []extent{{0, 3, 75}}},
		{"white space at the beginning", []rune("  a"), 50, []extent{{0, 2, 0}, {2, 3, 50}}},
		{"between ideographs", []rune{kanji, kanji, kanji}, 100, []extent{{0, 2, 100}, {2, 3, 50}}},
		{"a line feed before the width is reached", []rune("a\nb c"), 75, []extent{{0, 2, 50}, {2, 4, 50}, {4, 5, 50}}},
		{"the end of a word that was cut", []rune("abcd ef"), 110, []extent{{0, 2, 100}, {2, 5, 100}, {5, 7, 100}}},
		{"a word that was cut, and more", []rune("abc de f"), 125, []extent{{0, 2, 100}, {2, 4, 50}, {4, 7, 100}, {7, 8, 50}}},
	})
	// Runes that are no white space, or are followed by one that is none, need room.
	checkBreaks(t, "P9.3", []breakTest{
		{"a tab", []rune("a\tb"), 50, []extent{{0, 2, 50}, {2, 3, 50}}},
		{"an en quad", []rune{'a', 0x2000, 'b'}, 60, []extent{{0, 1, 50}, {1, 2, 50}, {2, 3, 50}}},
		{"a space before a zero width space", []rune{'a', ' ', 0x200B, 'b'}, 70, []extent{{0, 2, 50}, {2, 4, 50}}},
		{"a space before a zero width space", []rune{'a', ' ', 0x200B, 'b'}, 75, []extent{{0, 3, 75}, {3, 4, 50}}},
		{"a space with a mark", []rune{'a', ' ', acute, '.', 'b'}, 40, []extent{{0, 1, 50}, {1, 4, 32}, {4, 5, 50}}},
		{"a mark at the end", []rune{'a', ' ', ' ', acute, kanji}, 75, []extent{{0, 2, 50}, {2, 5, 75}}},
	})
}

func TestBreakingWords(t *testing.T) {
	checkBreaks(t, "P9.4", []breakTest{
		{"as many clusters as fit", []rune("abcdefg"), 110, []extent{{0, 2, 100}, {2, 4, 100}, {4, 6, 100}, {6, 7, 50}}},
		{"exactly", []rune("abcde"), 100, []extent{{0, 2, 100}, {2, 4, 100}, {4, 5, 50}}},
		{"all but the last one", []rune("abc"), 149, []extent{{0, 2, 100}, {2, 3, 50}}},
		{"at least one cluster", []rune("abc"), 49, []extent{{0, 1, 50}, {1, 2, 50}, {2, 3, 50}}},
		{"width 0", []rune("ab c\n"), 0, []extent{{0, 1, 50}, {1, 2, 50}, {2, 3, 0}, {3, 4, 50}, {4, 5, 0}, {5, 5, 0}}},
		{"clusters of several runes", []rune{'a', acute, 'b', acute, acute, 'c'}, 60, []extent{{0, 2, 50}, {2, 5, 50}, {5, 6, 50}}},
		{"too narrow for a cluster of several runes", []rune{'a', acute, 'b', acute}, 10, []extent{{0, 2, 50}, {2, 4, 50}}},
		{"a single cluster", []rune{'a', acute}, 0, []extent{{0, 2, 50}}},
		{"neither kern nor ligature within a cluster", []rune{'a', acute, 'f', 'i', acute, 'f', 'i'}, 105, []extent{{0, 3, 100}, {3, 7, 53}}},
		{"clusters without width", []rune{'a', 0x200E, 0x200E, 'b'}, 50, []extent{{0, 3, 50}, {3, 4, 50}}},
		{"a word after one that fits is not cut", []rune("ab cdef"), 180, []extent{{0, 3, 100}, {3, 6, 150}, {6, 7, 50}}},
	})
	// The first end that does not fit decides, even if a later one would fit again.
	checkBreaks(t, "P9.4", []breakTest{
		{"a ligature that is not reached", []rune{kanji, moon, sun}, 55, []extent{{0, 1, 50}, {1, 3, 3}}},
		{"a ligature that is reached", []rune{kanji, moon, sun}, 100, []extent{{0, 3, 53}}},
		{"a ligature within a word that is not reached", []rune("xfixx"), 55, []extent{{0, 1, 50}, {1, 4, 53}, {4, 5, 50}}},
		{"a ligature within a word that is reached", []rune("xfixx"), 110, []extent{{0, 4, 103}, {4, 5, 50}}},
		{"a ligature is cut", []rune("ffx"), 60, []extent{{0, 1, 50}, {1, 2, 50}, {2, 3, 50}}},
		{"a ligature is not cut", []rune("ffx"), 90, []extent{{0, 2, 90}, {2, 3, 50}}},
		{"the first end is that of a word", []rune("fix"), 3, []extent{{0, 1, 50}, {1, 2, 50}, {2, 3, 50}}},
	})
}

// TestFittingKerns examines glyphs beside the white space at the end of a line.
func TestFittingKerns(t *testing.T) {
	checkBreaks(t, "P9.3", []breakTest{
		{"a kern before white space counts", []rune("aV b"), 129, []extent{{0, 2, 100}, {2, 4, 75}}},
		{"a kern before white space counts", []rune("aV b"), 130, []extent{{0, 3, 130}, {3, 4, 50}}},
		{"a kern makes it narrower, down to nothing", []rune("aw b"), 50, []extent{{0, 3, 50}, {3, 4, 50}}},
		{"no kern after a break", []rune("w w"), 50, []extent{{0, 2, 0}, {2, 3, 50}}},
		{"no kern between a space and the next line", []rune("a V"), 60, []extent{{0, 2, 50}, {2, 3, 50}}},
		{"a kern of the space", []rune("a V"), 1000, []extent{{0, 3, 134}}},
		{"a ligature of a letter and a space", []rune("f b"), 59, []extent{{0, 1, 50}, {1, 2, 0}, {2, 3, 50}}},
		{"a ligature of a letter and a space", []rune("f b"), 60, []extent{{0, 2, 60}, {2, 3, 50}}},
		{"a ligature of a letter and one of two spaces", []rune("f  b"), 60, []extent{{0, 3, 60}, {3, 4, 50}}},
		{"a ligature of a space and a line feed", []rune("a \nb"), 50, []extent{{0, 3, 91}, {3, 4, 50}}},
		{"a ligature of white space and another rune", []rune("a _"), 92, []extent{{0, 2, 50}, {2, 3, 50}}},
		{"a ligature of white space and another rune", []rune("a _"), 93, []extent{{0, 3, 93}}},
	})
}

// TestHiddenWhiteSpace examines the advances of the glyphs at the ends of lines.
func TestHiddenWhiteSpace(t *testing.T) {
	l := linesOf(t, plain([]rune("aV   b  "), api.BaseLeft, 130))
	want := [][]api.Glyph{
		{{ID: 'a', From: 0, To: 1, X: 0, Advance: 50, Size: 100}, {ID: 'V', From: 1, To: 2, X: 50, Advance: 80, Size: 100}, {ID: ' ', From: 2, To: 3, X: 130, Size: 100}, {ID: ' ', From: 3, To: 4, X: 130, Size: 100}, {ID: ' ', From: 4, To: 5, X: 130, Size: 100}},
		{{ID: 'b', From: 5, To: 6, X: 0, Advance: 50, Size: 100}, {ID: ' ', From: 6, To: 7, X: 50, Advance: 25, Size: 100}, {ID: ' ', From: 7, To: 8, X: 75, Advance: 25, Size: 100}},
	}
	if len(l) != 2 || !slices.Equal(l[0].Glyphs, want[0]) || !slices.Equal(l[1].Glyphs, want[1]) {
		t.Errorf("P9.5: the glyphs are %v, want %v", l, want)
	}
	// Before a line feed the advances stay.
	l = linesOf(t, plain([]rune("a  \n"), api.BaseLeft, 50))
	if len(l) != 2 || l[0].Width != 50+25+41 || l[0].Glyphs[2].ID != 0x110003 || l[0].Glyphs[2].Advance != 41 {
		t.Errorf("P9.5: the glyphs before a line feed are %v", l)
	}
}

func TestHeight(t *testing.T) {
	if got := Height(nil); got != 0 {
		t.Errorf("P9.6: Height of no lines = %d", got)
	}
	// Only the heights count.
	if got := Height([]api.Line{{Height: 7, Y: 50, Ascent: 3}, {Height: 0, Width: 9}, {Height: 12, Y: -4, Descent: 80}}); got != 19 {
		t.Errorf("P9.6: Height = %d, want 19", got)
	}
	if got := Height(linesOf(t, plain([]rune("a\nb\n"), api.BaseLeft, 50))); got != 330 {
		t.Errorf("P9.6: Height of three lines = %d, want 330", got)
	}
}

func TestIntrinsicWidths(t *testing.T) {
	tests := []struct {
		name        string
		text        []rune
		least, most int
	}{
		{"no text", nil, 0, 0},
		{"a line feed", []rune("\n"), 0, 0},
		{"one rune", []rune("a"), 50, 50},
		{"words", []rune("ab abc a"), 150, 100 + 25 + 150 + 25 + 50},
		{"the first word is the longest one", []rune("abc a"), 150, 225},
		{"the last word is the longest one", []rune("a abc"), 150, 225},
		{"white space at the ends", []rune("  a   b  "), 50, 50 + 50 + 75 + 50},
		{"only white space", []rune("    "), 0, 0},
		{"the longest section", []rune("ab\na b c\nabc"), 150, 200},
		{"white space before a line feed", []rune("a  \nb"), 50, 50},
		{"an unbreakable part is not cut", []rune("abcdef"), 300, 300},
		{"ideographs", []rune{kanji, kanji, kanji}, 50, 150},
		{"a part is wider than the whole", []rune{kanji, moon, sun}, 50, 100},
		{"a part that is no word is wider than the whole", []rune("fi"), 3, 3},
		{"a kern before white space", []rune("V a"), 80, 155},
		{"no kern after a break", []rune{' ', 'V'}, 50, 84},
		{"a tab", []rune("a\tb"), 50, 100},
		{"a word in both directions", []rune{'a', alef, ' ', bet}, 100, 175},
	}
	for _, x := range tests {
		for _, width := range []int{0, 75, api.MaxLength} {
			p := plain(x.text, api.BaseLeft, width)
			if least, most := Least(p, fonts()), Most(p, fonts()); least != x.least || most != x.most {
				t.Errorf("P9.6: %s: Least and Most of %x are %d and %d, want %d and %d", x.name, x.text, least, most, x.least, x.most)
			}
		}
	}
}

// TestIntrinsicWidthsOfSpans examines kerns and ligatures, which do not cross the ends of spans.
func TestIntrinsicWidthsOfSpans(t *testing.T) {
	for _, x := range []struct {
		text        string
		ends        []int
		least, most int
	}{
		{"fi", []int{1, 2}, 60, 60}, {"ffi", []int{1, 3}, 70, 70}, {"AV", []int{1, 2}, 60, 60}, {"V a", []int{1, 3}, 50, 70}, {"AV fi", []int{2, 5}, 92, 122}, {"a  b", []int{2, 4}, 50, 95},
	} {
		p := spanned([]rune(x.text), api.BaseLeft, 0, x.ends...)
		if least, most := Least(p, fonts()), Most(p, fonts()); least != x.least || most != x.most {
			t.Errorf("P9.6: Least and Most of %q with spans to %v are %d and %d, want %d and %d", x.text, x.ends, least, most, x.least, x.most)
		}
	}
}

func TestLongestText(t *testing.T) {
	text := slices.Repeat([]rune{kanji}, api.MaxText)
	p := plain(text, api.BaseAuto, 50)
	l := linesOf(t, p)
	if len(l) != 2000 || l[1999].From != 1999 || l[1999].To != 2000 || l[1999].Y != 1999*110 {
		t.Errorf("P9.4: 2000 ideographs at the width 50 have %d lines", len(l))
	}
	if least, most := Least(p, fonts()), Most(p, fonts()); least != 50 || most != 100000 {
		t.Errorf("P9.6: Least and Most of 2000 ideographs are %d and %d", least, most)
	}
	word := slices.Repeat([]rune{'a'}, api.MaxText)
	if got := extents(linesOf(t, plain(word, api.BaseRight, 60000))); !slices.Equal(got, []extent{{0, 1200, 60000}, {1200, 2000, 40000}}) {
		t.Errorf("P9.4: the lines of a word of 2000 letters are %v", got)
	}
	p.Text = append(text, kanji)
	p.Spans[0].To++
	if l, e := Lines(p, fonts()); len(l) != 0 || e != api.ErrTooLong {
		t.Errorf("P9.5: 2001 runes have %d lines, error %d", len(l), e)
	}
}

// TestValues checks that nothing is changed or shared.
func TestValues(t *testing.T) {
	p := spanned([]rune{'a', ' ', alef, bet, ' ', 'f', 'i', '\n'}, api.BaseAuto, 60, 3, 8)
	text, spans, given := slices.Clone(p.Text), slices.Clone(p.Spans), fonts()
	first, _ := Lines(p, given)
	second, _ := Lines(p, given)
	Validate(p, given)
	Least(p, given)
	Most(p, given)
	for i := range second {
		for j := range second[i].Glyphs {
			second[i].Glyphs[j].X = 1000
		}
		second[i].Glyphs = append(second[i].Glyphs[:0], slices.Repeat([]api.Glyph{{ID: 7}}, cap(second[i].Glyphs))...)
	}
	third, _ := Lines(p, given)
	if !sameLines(first, third) || !slices.Equal(p.Text, text) || !slices.Equal(p.Spans, spans) || !sameFonts(given, fonts()) {
		t.Errorf("R2: the lines have become %v, the paragraph %v, the fonts %v", first, p, given)
	}
	for i := range second {
		for _, g := range second[i].Glyphs {
			if g.ID != 7 {
				t.Errorf("R2: line %d shares the memory of its glyphs", i)
			}
		}
	}
}

func sameLines(a, b []api.Line) bool {
	return slices.EqualFunc(a, b, func(x, y api.Line) bool {
		glyphs := slices.Equal(x.Glyphs, y.Glyphs)
		x.Glyphs, y.Glyphs = nil, nil
		return glyphs && x.From == y.From && x.To == y.To && x.Level == y.Level && x.X == y.X && x.Y == y.Y && x.Width == y.Width && x.Ascent == y.Ascent && x.Descent == y.Descent && x.Height == y.Height
	})
}

func sameFonts(a, b []api.Font) bool {
	return slices.EqualFunc(a, b, func(x, y api.Font) bool {
		return slices.Equal(x.Advances, y.Advances) && slices.Equal(x.Kerns, y.Kerns) && slices.Equal(x.Ligatures, y.Ligatures)
	})
}

package caret

import (
	"slices"
	"testing"

	"widgetry/api"
	"widgetry/paragraph"
)

const (
	alef    = rune(0x5D0)
	bet     = rune(0x5D1)
	gimel   = rune(0x5D2)
	acute   = rune(0x301)  // a mark without advance
	visarga = rune(0x903)  // a mark with an advance
	sign    = rune(0x600)  // begins a cluster
	forced  = rune(0x202E) // everything after it runs from right to left
	isolate = rune(0x2067) // so does what it isolates
)

// sample returns a font of 100 units, so that at size 100 a pixel is a unit: 50 for letters and 25 for a space.
func sample() api.Font {
	return api.Font{
		Units: 100, Ascent: 80, Descent: 20, Default: 50,
		Advances: []api.Advance{{From: ' ', To: ' ', Width: 25}},
		Kerns:    []api.Kern{{A: 'v', B: 'w', D: -500}, {A: acute, B: 'w', D: 9}, {A: acute, B: gimel, D: 8}},
		Ligatures: []api.Ligature{
			{A: '\t', B: '\n', Glyph: 0x110000, Width: 0}, {A: ' ', B: '\n', Glyph: 0x110001, Width: 31}, {A: 'f', B: 'f', Glyph: 0x110002, Width: 1}, {A: 'f', B: 'i', Glyph: 0x110003, Width: 33},
			{A: alef, B: bet, Glyph: 0x110004, Width: 41}, {A: gimel, B: '\n', Glyph: 0x110005, Width: 71},
		},
	}
}

// flat returns a font whose lines are higher; at size 100 its glyphs have the width 10.
func flat() api.Font {
	return api.Font{Units: 100, Ascent: 30, Descent: 60, Gap: 40, Default: 10}
}

func fonts() []api.Font { return []api.Font{sample(), flat()} }

// spanned returns a paragraph whose spans end at the positions; they have the two fonts by turns, at size 100.
func spanned(text []rune, base, width int, ends ...int) api.Paragraph {
	p := api.Paragraph{Text: text, Base: base, Width: width}
	from := 0
	for i, to := range ends {
		p.Spans = append(p.Spans, api.Span{From: from, To: to, Font: i % 2, Size: 100})
		from = to
	}
	return p
}

// plain returns a paragraph in the first font.
func plain(text []rune, base, width int) api.Paragraph {
	return spanned(text, base, width, len(text))
}

// linesOf returns the lines of a valid paragraph.
func linesOf(t *testing.T, p api.Paragraph) []api.Line {
	t.Helper()
	l, e := paragraph.Lines(p, fonts())
	if e != api.OK {
		t.Fatalf("Lines of %x: error %d", p.Text, e)
	}
	return l
}

// row is a cell: From, To, Left, Right, Level.
type row [5]int

func rowsOf(cells []api.Cell) []row {
	var rows []row
	for _, c := range cells {
		rows = append(rows, row{c.From, c.To, c.Left, c.Right, c.Level})
	}
	return rows
}

func TestCells(t *testing.T) {
	tests := []struct {
		name string
		p    api.Paragraph
		want [][]row
	}{
		{"no text", plain(nil, api.BaseAuto, 0), [][]row{nil}},
		{"letters", plain([]rune("ab"), api.BaseAuto, 200), [][]row{{{0, 1, 0, 50, 0}, {1, 2, 50, 100, 0}}}},
		{"newlines have no cells", plain([]rune{'a', '\r', '\n', 'b', '\n', 0x0B, 0x0C, 0x85, 0x2028, 0x2029, '\r'}, api.BaseAuto, 200),
			[][]row{{{0, 1, 0, 50, 0}}, {{3, 4, 0, 50, 0}}, nil, nil, nil, nil, nil, nil, nil}},
		{"other controls have cells without width", plain([]rune{'\t', 'a', 0x200B}, api.BaseAuto, 200), [][]row{{{0, 1, 0, 0, 0}, {1, 2, 0, 50, 0}, {2, 3, 50, 50, 0}}}},
		{"a mark belongs to its base", plain([]rune{'e', acute, 'a'}, api.BaseAuto, 200), [][]row{{{0, 2, 0, 50, 0}, {2, 3, 50, 100, 0}}}},
		{"a mark alone", plain([]rune{acute, '\n', acute, 'a'}, api.BaseLeft, 200), [][]row{{{0, 1, 0, 0, 0}}, {{2, 3, 0, 0, 0}, {3, 4, 0, 50, 0}}}},
		{"a mark with an advance", plain([]rune{'a', visarga, acute}, api.BaseAuto, 200), [][]row{{{0, 3, 0, 100, 0}}}},
		{"a mark that got an advance", plain([]rune{'e', acute, 'w'}, api.BaseAuto, 200), [][]row{{{0, 2, 0, 59, 0}, {2, 3, 59, 109, 0}}}},
		{"a letter that lost its advance", plain([]rune{'a', 'v', 'w'}, api.BaseAuto, 200), [][]row{{{0, 1, 0, 50, 0}, {1, 2, 50, 50, 0}, {2, 3, 50, 100, 0}}}},
		{"the end of a line", plain([]rune("a  b c"), api.BaseAuto, 125), [][]row{{{0, 1, 0, 50, 0}, {1, 2, 50, 50, 0}, {2, 3, 50, 50, 0}}, {{3, 4, 0, 50, 0}, {4, 5, 50, 75, 0}, {5, 6, 75, 125, 0}}}},
		{"a cut word", plain([]rune{'a', acute, 'b', acute}, api.BaseAuto, 0), [][]row{{{0, 2, 0, 50, 0}}, {{2, 4, 0, 50, 0}}}},
		{"from right to left", plain([]rune{bet, alef, ' '}, api.BaseAuto, 200), [][]row{{{2, 3, 75, 100, 1}, {1, 2, 100, 150, 1}, {0, 1, 150, 200, 1}}}},
		{"a mark from right to left", plain([]rune{bet, acute, alef, visarga}, api.BaseRight, 200), [][]row{{{2, 4, 50, 150, 1}, {0, 2, 150, 200, 1}}}},
		{"a mark that got an advance, from right to left", plain([]rune{bet, acute, gimel}, api.BaseRight, 108), [][]row{{{2, 3, 0, 50, 1}, {0, 2, 50, 108, 1}}}},
		{"both directions", plain([]rune{'a', bet, '1', gimel, 'b'}, api.BaseLeft, 250), [][]row{{{0, 1, 0, 50, 0}, {3, 4, 50, 100, 1}, {2, 3, 100, 150, 2}, {1, 2, 150, 200, 1}, {4, 5, 200, 250, 0}}}},
		{"a Latin letter from right to left", plain([]rune{alef, 'a'}, api.BaseAuto, 100), [][]row{{{1, 2, 0, 50, 2}, {0, 1, 50, 100, 1}}}},
		{"white space at the end has the level of the paragraph", plain([]rune{bet, ' ', ' ', '\n'}, api.BaseLeft, 131), [][]row{{{0, 1, 0, 50, 1}, {1, 2, 50, 75, 0}, {2, 3, 75, 90, 0}}, nil}},
		{"except within a cluster", plain([]rune{sign, ' '}, api.BaseLeft, 200), [][]row{{{0, 2, 0, 75, 2}}}},
		{"levels do not cross sections", plain([]rune{forced, 'a', '\n', 'b', '\n', bet}, api.BaseAuto, 50), [][]row{{{0, 1, 0, 0, 0}, {1, 2, 0, 50, 1}}, {{3, 4, 0, 50, 0}}, {{5, 6, 0, 50, 1}}}},
		{"levels cross the lines of a section", plain([]rune{isolate, 'a', ' ', 'b', bet}, api.BaseLeft, 60), [][]row{{{0, 1, 0, 0, 0}, {1, 2, 0, 50, 2}, {2, 3, 50, 50, 0}}, {{3, 4, 0, 50, 2}}, {{4, 5, 0, 50, 1}}}},
	}
	for _, x := range tests {
		checkCells(t, x.name, x.p, x.want)
	}
}

func checkCells(t *testing.T, name string, p api.Paragraph, want [][]row) {
	t.Helper()
	l := linesOf(t, p)
	if len(l) != len(want) {
		t.Errorf("P10.1: %s: %x has %d lines, want %d", name, p.Text, len(l), len(want))
		return
	}
	for i, line := range l {
		if got := rowsOf(Cells(p, line)); !slices.Equal(got, want[i]) {
			t.Errorf("P10.1: %s: the cells of line %d of %x are %v, want %v", name, i, p.Text, got, want[i])
		}
	}
}

func TestLigatureCells(t *testing.T) {
	for _, x := range []struct {
		name string
		p    api.Paragraph
		want []row
	}{
		{"two letters", plain([]rune("afib"), api.BaseAuto, 200), []row{{0, 1, 0, 50, 0}, {1, 2, 50, 66, 0}, {2, 3, 66, 83, 0}, {3, 4, 83, 133, 0}}},
		{"a single pixel", plain([]rune("ff"), api.BaseAuto, 200), []row{{0, 1, 0, 0, 0}, {1, 2, 0, 1, 0}}},
		{"from right to left", plain([]rune{gimel, alef, bet}, api.BaseAuto, 91), []row{{2, 3, 0, 21, 1}, {1, 2, 21, 41, 1}, {0, 1, 41, 91, 1}}},
		{"a single pixel from right to left", plain([]rune{forced, 'f', 'f', 'x'}, api.BaseRight, 51), []row{{3, 4, 0, 50, 3}, {2, 3, 50, 51, 3}, {1, 2, 51, 51, 3}, {0, 1, 51, 51, 1}}},
	} {
		checkCells(t, x.name, x.p, [][]row{x.want})
	}
	// The newline's part of a ligature belongs to no cell.
	checkCells(t, "with a newline", plain([]rune{'a', ' ', '\n'}, api.BaseLeft, 81), [][]row{{{0, 1, 0, 50, 0}, {1, 2, 50, 65, 0}}, nil})
	checkCells(t, "with a newline, from right to left", plain([]rune{bet, gimel, '\n'}, api.BaseRight, 121), [][]row{{{1, 2, 36, 71, 1}, {0, 1, 71, 121, 1}}, nil})
	checkCells(t, "without advance", plain([]rune{'a', '\t', '\n'}, api.BaseLeft, 100), [][]row{{{0, 1, 0, 50, 0}, {1, 2, 50, 50, 0}}, nil})
}

// TestCellsOfSpans examines clusters whose runes have different fonts, so that their glyphs come from different runs.
func TestCellsOfSpans(t *testing.T) {
	for _, x := range []struct {
		name string
		p    api.Paragraph
		want []row
	}{
		{"a mark with an advance", spanned([]rune{'a', 'b', visarga, 'c'}, api.BaseLeft, 200, 2, 4), []row{{0, 1, 0, 50, 0}, {1, 3, 50, 110, 0}, {3, 4, 110, 120, 0}}},
		{"the same from right to left", spanned([]rune{gimel, bet, visarga, gimel}, api.BaseRight, 120, 2, 4), []row{{3, 4, 0, 10, 1}, {1, 3, 10, 70, 1}, {0, 1, 70, 120, 1}}},
		{"a mark without advance", spanned([]rune{'a', acute, 'b'}, api.BaseLeft, 200, 1, 2, 3), []row{{0, 2, 0, 50, 0}, {2, 3, 50, 100, 0}}},
		{"no ligature", spanned([]rune{'f', 'i'}, api.BaseLeft, 200, 1, 2), []row{{0, 1, 0, 50, 0}, {1, 2, 50, 60, 0}}},
	} {
		checkCells(t, x.name, x.p, [][]row{x.want})
	}
}

// TestCellsOfGlyphs examines glyphs apart from their cluster, as no line has them: those without advance widen no cell that has others.
func TestCellsOfGlyphs(t *testing.T) {
	p := plain([]rune{'a', acute, 'b', acute, acute, 'c', acute, acute}, api.BaseLeft, 200)
	line := api.Line{To: 8, Glyphs: []api.Glyph{
		{From: 1, To: 2, X: 7}, {From: 2, To: 3, X: 10, Advance: 50}, {From: 4, To: 5, X: 5}, {From: 0, To: 1, X: 60, Advance: 40}, {From: 3, To: 4, X: 100, Advance: 3},
		{From: 5, To: 6, X: 200, Advance: 30}, {From: 6, To: 7, X: 190, Advance: 20}, {From: 7, To: 8, X: 240},
	}}
	want := []row{{0, 2, 60, 100, 0}, {2, 5, 10, 103, 0}, {5, 8, 190, 230, 0}}
	if got := rowsOf(Cells(p, line)); !slices.Equal(got, want) {
		t.Errorf("P10.1: the cells of glyphs in another order are %v, want %v", got, want)
	}
}

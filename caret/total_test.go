package caret

import (
	"math"
	"slices"
	"testing"

	"widgetry/api"
)

// useAll calls all functions.
func useAll(p api.Paragraph, l []api.Line, c api.Caret, n int) {
	for _, line := range l {
		Cells(p, line)
	}
	Find(p, l, c)
	At(p, l, api.Point{X: n, Y: n})
	Left(p, l, c)
	Right(p, l, c)
	Up(p, l, c, n)
	Down(p, l, c, n)
	Home(p, l, c)
	End(p, l, c)
	Selection(p, l, n, c.Offset)
}

// TestOtherLists checks that the functions return for lines that are not those of the paragraph (R1).
func TestOtherLists(t *testing.T) {
	numbers := []int{math.MinInt, -1, 0, 1, 2, 5, math.MaxInt}
	texts := []api.Paragraph{
		{}, {Base: 7, Width: -1}, plain(nil, api.BaseAuto, 0), plain([]rune{'a'}, api.BaseAuto, 0), plain([]rune{'\n', '\n'}, api.BaseRight, 0), plain([]rune{alef, acute, '\r', '\n', -1}, api.BaseAuto, 0),
		plain(make([]rune, api.MaxText+1), api.BaseAuto, 0), plain([]rune{bet, 'a', ' ', '1', acute, '\n', sign, 'b'}, api.BaseLeft, 0),
	}
	lists := [][]api.Line{linesOf(t, broken()), linesOf(t, mixed()), linesOf(t, plain(nil, api.BaseRight, 5))}
	for _, from := range numbers {
		for _, to := range numbers {
			lists = append(lists, []api.Line{{From: from, To: to, Level: to, X: to, Y: from, Width: from, Height: to, Glyphs: []api.Glyph{
				{From: from, To: to, X: from, Advance: to}, {From: 0, To: 1}, {From: to, To: from}, {From: from, To: from + 1}, {From: to - 1, To: to},
			}}, {}})
		}
	}
	for _, p := range texts {
		for _, l := range lists {
			for _, n := range numbers {
				useAll(p, l, on(n), n)
				useAll(p, l, after(n), n)
			}
		}
	}
}

// TestGlyphsOfOtherTexts checks that only glyphs within a line, and lines within the text, have cells.
func TestGlyphsOfOtherTexts(t *testing.T) {
	p := plain([]rune("abc"), api.BaseLeft, 0)
	glyphs := []api.Glyph{{From: 0, To: 1, Advance: 1}, {From: 1, To: 1, Advance: 1}, {From: 2, To: 3, X: 1, Advance: 1}, {From: 1, To: 2, X: 2, Advance: 1}, {From: 2, To: 1, Advance: 1}, {From: 0, To: 2, Advance: 1}, {From: 1, To: 3, Advance: 1}}
	want := []row{{1, 2, 2, 3, 0}}
	if got := rowsOf(Cells(p, api.Line{From: 1, To: 2, Glyphs: glyphs})); !slices.Equal(got, want) {
		t.Errorf("P10.1: the cells of a line with other glyphs are %v, want %v", got, want)
	}
	for _, line := range []api.Line{{From: 0, To: 4}, {From: -1, To: 3}, {From: 3, To: 0}} {
		line.Glyphs = glyphs
		if got := Cells(p, line); len(got) != 0 {
			t.Errorf("P10.1: the cells of the line from %d to %d are %v", line.From, line.To, got)
		}
	}
	// A cluster that the ends of a line cut is a cell in each of the lines.
	cut := plain([]rune{'a', acute, acute, 'b'}, api.BaseLeft, 0)
	first := api.Line{From: 0, To: 2, Glyphs: []api.Glyph{{From: 0, To: 1, Advance: 9}, {From: 1, To: 2, X: 9}}}
	second := api.Line{From: 2, To: 4, Glyphs: []api.Glyph{{From: 2, To: 3}, {From: 3, To: 4, Advance: 9}}}
	got := append(rowsOf(Cells(cut, first)), rowsOf(Cells(cut, second))...)
	if want := []row{{0, 2, 0, 9, 0}, {2, 3, 0, 0, 0}, {3, 4, 0, 9, 0}}; !slices.Equal(got, want) {
		t.Errorf("P10.1: the cells of a cut cluster are %v, want %v", got, want)
	}
}

func TestLongTexts(t *testing.T) {
	p := plain(slices.Repeat([]rune{'a', bet}, api.MaxText/2), api.BaseLeft, 0)
	l := linesOf(t, p)
	if got := Selection(p, l, 0, api.MaxText); len(l) != api.MaxText || len(got) != len(l) {
		t.Errorf("P10.6: the greatest text in %d lines has %d rectangles", len(l), len(got))
	}
	if got := Left(p, l, on(api.MaxText)); got != after(api.MaxText-1) {
		t.Errorf("P10.4: Left of the end of the greatest text is %v", got)
	}
	p.Width = api.MaxLength
	if got := Selection(p, linesOf(t, p), 0, api.MaxText); len(got) != 1 || got[0].W != 50*api.MaxText {
		t.Errorf("P10.6: the greatest text in one line has the rectangles %v", got)
	}
	// A text that is too long has no lines, and with them no places.
	long := plain(make([]rune, api.MaxText+1), api.BaseLeft, 100)
	for _, c := range []api.Caret{on(0), after(1), on(api.MaxText + 1)} {
		if _, _, ok := Find(long, nil, c); ok || Left(long, nil, c) != c || End(long, nil, c) != c {
			t.Errorf("P10.2: the caret %v in a text without lines has a place", c)
		}
	}
}

// TestArguments checks that the functions change neither their arguments nor what they returned before (R2).
func TestArguments(t *testing.T) {
	p := plain([]rune{'a', 'f', 'i', ' ', bet, acute, '\n', gimel}, api.BaseAuto, 120)
	l := linesOf(t, p)
	text, spans, lines := slices.Clone(p.Text), slices.Clone(p.Spans), linesOf(t, p)
	cells, rects := Cells(p, l[0]), Selection(p, l, 0, 8)
	first, again := slices.Clone(cells), slices.Clone(rects)
	for o := range 9 {
		useAll(p, l, on(o), 60)
		useAll(p, l, after(o), 60)
	}
	other, more := Cells(p, l[0]), Selection(p, l, 0, 8)
	if !slices.Equal(other, first) || !slices.Equal(more, again) {
		t.Errorf("R2: the same arguments give %v and %v, then %v and %v", first, again, other, more)
	}
	clear(other[:cap(other)])
	clear(more[:cap(more)])
	if !slices.Equal(cells, first) || !slices.Equal(rects, again) {
		t.Errorf("R2: the results have become %v and %v", cells, rects)
	}
	same := func(a, b api.Line) bool {
		glyphs := slices.Equal(a.Glyphs, b.Glyphs)
		return glyphs && a.From == b.From && a.To == b.To && a.Level == b.Level && a.X == b.X && a.Y == b.Y && a.Width == b.Width && a.Ascent == b.Ascent && a.Descent == b.Descent && a.Height == b.Height
	}
	if !slices.Equal(p.Text, text) || !slices.Equal(p.Spans, spans) || !slices.EqualFunc(l, lines, same) {
		t.Errorf("R2: the paragraph has become %v, its lines %v", p, l)
	}
}

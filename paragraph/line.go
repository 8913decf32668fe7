package paragraph

import (
	"widgetry/api"
	"widgetry/bidi"
	"widgetry/fixed"
	"widgetry/font"
	"widgetry/shape"
)

// line returns the line of s from from to to; where it stands among the other lines is left open.
func (t *text) line(s section, from, to int) api.Line {
	glyphs := t.glyphs(s, from, to)
	if to < s.to {
		hideFrom(glyphs, t.shownEnd(from, to))
	}
	line := api.Line{From: from, To: to, Level: s.base, Width: shape.Width(glyphs), Glyphs: glyphs}
	line.X = t.left(s.base, line.Width)
	x := line.X
	for i := range glyphs {
		glyphs[i].X = x
		x += glyphs[i].Advance
	}
	t.setHeight(&line)
	return line
}

// glyphs returns the glyphs of a line from left to right.
func (t *text) glyphs(s section, from, to int) []api.Glyph {
	runs := t.runs(s, from, to)
	levels := make([]int, len(runs))
	for i, r := range runs {
		levels[i] = r.level
	}
	var glyphs []api.Glyph
	// The runes of a run stay together in visual order, so that the runs are ordered like single runes.
	for _, i := range bidi.Order(levels) {
		r := runs[i]
		span := t.span(r.from)
		glyphs = append(glyphs, shape.Run(t.fonts[span.Font], span.Font, span.Size, t.Text, r.from, r.to, r.level%2 == 1)...)
	}
	return glyphs
}

// hideFrom takes the advance from the glyphs that begin at or after the position.
func hideFrom(glyphs []api.Glyph, position int) {
	for i := range glyphs {
		if glyphs[i].From >= position {
			glyphs[i].Advance = 0
		}
	}
}

// left returns the left edge of a line of the width.
func (t *text) left(base, width int) int {
	free := t.Width - width
	toRight := base%2 == 0
	switch {
	case t.Align == api.AlignCenter:
		return fixed.Floor(free, 2)
	case toRight == (t.Align == api.AlignStart):
		return 0
	}
	return free
}

// setHeight gives the line the extents of the greatest of its spans.
func (t *text) setHeight(line *api.Line) {
	first, last := len(t.Spans)-1, len(t.Spans)-1
	if line.From < line.To {
		first, last = t.spanOf[line.From], t.spanOf[line.To-1]
	}
	for _, s := range t.Spans[first : last+1] {
		f := t.fonts[s.Font]
		line.Ascent = max(line.Ascent, font.Ascent(f, s.Size))
		line.Descent = max(line.Descent, font.Descent(f, s.Size))
		line.Height = max(line.Height, font.Height(f, s.Size))
	}
	line.Height = max(line.Height, line.Ascent+line.Descent)
}
